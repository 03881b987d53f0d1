"""Section 8: lines, and classes of sources."""

import random
import unittest
from fractions import Fraction

from rangehunt.benches import Bench
from rangehunt.classes import classes, line_up, lines, samples, shows_samples
from rangehunt.errors import TooMany
from rangehunt.sources import Source
from rangehunt.stepping import steps
from tests.drawn import bent, drawn_benches, source_of
from tests.tools import CROWDED, FULL, LIT, MORE, MOST, PAIR, Case, any_values, fraction, pair_of
from tests.world import class_of, meetings, own_count, own_lines, own_points, right_samples

ONE = "meter m\n  range a load 1 unit 1"
# All lines meet in the point of 12 volts and 1 ohm.
POINT = (
    "meter m\n  range a load 11 unit 1 up 1\n  range b load 5 unit 1 down 0 up 2\n"
    "  range c load 3 unit 1 down 0 up 3\n  range d load 2 unit 1 down 0"
)
PARALLEL = (
    "meter m\n  range a load 6 unit 1 up 1\n  range b load 3 unit 1 down 0 up 2\n"
    "  range c load 2 unit 1 down 0 up 3\n  range d load 2 unit 1 down 0"
)
# In one point five lines meet.
CROWD = (
    "meter a\n  range low load 1 unit 5 up 2\n  range lo load 0 unit 1/10 down 1 up 12\n  range b load 3 unit 1 down 3\n"
    "meter ab\n  range low load 5 unit 1/10 up 2\n  range lo load 0 unit 1/10 down 1 up 4\n  range b load 11 unit 5 down 3\n"
    "load z 2"
)
# The two lines meet at 0 ohms alone.
FAN = "meter m\n  range a load 1 unit 1 up 2\n  range b load 1 unit 1 down 0\nload z 1"


def in_sequence(found):
    """Lines as pairs of ratios, ascending by their numbers."""
    return tuple((pair_of(u), pair_of(m)) for u, m in sorted(found))


class Lines(Case):

    def test_the_example(self):
        pair = Bench(PAIR)
        found = [len(lines(pair)), lines(pair)[:3], classes(pair), len(samples(pair)), line_up(pair, Source((2, 1), (0, 1)))]
        wanted = (((2, 1), (8, 1)), ((2, 1), (10, 1)), ((5, 2), (5, 1)))
        self.assert_same(found, [8, wanted, 18, 18, wanted[:2]])

    def test_all_lines_of_the_example(self):
        self.assert_same(lines(Bench(PAIR)), (
            ((2, 1), (8, 1)), ((2, 1), (10, 1)), ((5, 2), (5, 1)), ((5, 2), (10, 1)),
            ((11, 4), (33, 4)), ((11, 4), (55, 4)), ((4, 1), (8, 1)), ((4, 1), (12, 1)),
        ))

    def test_few_lines(self):
        self.assert_same(lines(Bench(ONE)), ())
        self.assert_same(lines(Bench(ONE + " up 2\n  range b load 3 unit 1 down 0")), (((2, 1), (2, 1)),))
        self.assert_same(lines(Bench(ONE + " up 2\n  range b load 3 unit 1 down 1")), (((1, 1), (3, 1)), ((2, 1), (2, 1))))
        self.assert_same(lines(Bench(ONE + " up 2\n  range b load 1 unit 1 down 2")), (((2, 1), (2, 1)),))
        self.assert_same(lines(Bench("meter m\n  range a load 0 unit 1 up 2\n  range b load 0 unit 1 down 2")), (((2, 1), (0, 1)),))

    def test_lower_thresholds_less_by_the_spread(self):
        text = "meter m\n  range a load 2 unit 1 up 4\n  range b load 3 unit 1 down 3"
        for many, threshold in ((1, (57, 20)), (10, (3, 2)), (19, (3, 20))):
            line = (threshold, pair_of(3 * fraction(threshold)))
            self.assert_same(lines(Bench(text).spread_by(many)), (line, ((4, 1), (8, 1))))
        self.assert_same(lines(Bench(text).spread_by(20)), (((4, 1), (8, 1)),))

    def test_ascending_by_numbers(self):
        text = "meter m\n  range a load 1 unit 1 up {}\n  range b load 1/3 unit 1 down {} up {}\n  range c load 1/10 unit 1 down 0"
        bench = Bench(text.format("9", "1/2", "10"))
        self.assert_same(lines(bench), (((1, 2), (1, 6)), ((9, 1), (9, 1)), ((10, 1), (10, 3))))
        bench = Bench(text.format("7/10", "1/3", "71/99"))
        self.assert_same(lines(bench), (((1, 3), (1, 9)), ((7, 10), (7, 10)), ((71, 99), (71, 297))))
        bench = Bench(FAN.replace("load z 1", "load z 1/3\nload a 11"))
        self.assert_same(lines(bench), (((2, 1), (2, 1)), ((2, 1), (8, 3)), ((2, 1), (24, 1)), ((2, 1), (74, 3))))

    def test_lines_of_drawn_benches(self):
        for bench in drawn_benches(81, 120, most_lines=300, most_settings=300) + [Bench(FULL), Bench(LIT), Bench(MORE), Bench(CROWDED)]:
            self.assert_same(lines(bench), in_sequence(own_lines(bench)))
            self.assert_same(lines(bench=bench), lines(bench))


class LineUp(Case):

    def test_on_and_beside_a_line(self):
        bench = Bench(ONE + " up 2\n  range b load 3 unit 1 down 1")
        low, high = ((1, 1), (3, 1)), ((2, 1), (2, 1))
        for volts, ohms, wanted in (
            ((0, 1), (0, 1), ()), ((999999, 1000000), (0, 1), ()), ((1, 1), (0, 1), (low,)), ((1999999, 1000000), (0, 1), (low,)),
            ((2, 1), (0, 1), (low, high)), ((3, 1), (1, 1), ()), ((3999999, 1000000), (1, 1), ()), ((4, 1), (1, 1), (low, high)),
            ((0, 1), (100, 1), ()), ((201, 1), (100, 1), ()), ((202, 1), (100, 1), (high,)), ((300, 1), (100, 1), (high,)),
            ((301, 1), (100, 1), (low, high)), ((999999999, 1), (100, 1), (low, high)),
        ):
            with self.subTest(volts=volts, ohms=ohms):
                self.assert_same(line_up(bench, Source(volts, ohms)), wanted)

    def test_line_ups_of_drawn_benches(self):
        little = Fraction(1, 10 ** 12)
        for bench in drawn_benches(82, 40) + [Bench(LIT)]:
            for u, m in sorted(own_lines(bench)):
                for ohms in (Fraction(0), Fraction(2, 3), Fraction(50)):
                    for by in (0, -little, little):
                        source = source_of((u + m * ohms + by, ohms))
                        wanted = in_sequence(class_of(bench, source))
                        self.assert_same(line_up(bench, source), wanted)
                        self.assert_same(line_up(bench=bench, source=source), wanted)

    def test_none_and_all(self):
        for text in (PAIR, LIT, FULL, MORE, CROWDED, ONE):
            bench = Bench(text)
            self.assert_same(line_up(bench, Source((0, 1), (0, 1))), ())
            self.assert_same(line_up(bench, Source((0, 1), (9, 1))), ())
            self.assert_same(line_up(bench, Source((999999999, 1), (0, 1))), lines(bench))

    def test_the_same_steps_on_sources_of_one_class(self):
        rng = random.Random(83)
        for bench in drawn_benches(83, 25):
            for points in own_points(bench).values():
                one, other = [source_of(rng.choice(points)) for _ in range(2)]
                self.assert_same(line_up(bench, one), line_up(bench, other))
                for setting in bench.settings[::2]:
                    self.assert_same(steps(bench, setting, one), steps(bench, setting, other))


class Classes(Case):

    def test_few_classes(self):
        two = ONE + " up 2\n  range b load {} unit 1 down {}"
        for text, many in (
            (ONE, 1), (ONE + "\nload z 1", 1), (two.format(1, 0), 2), (two.format(3, 1), 4), (two.format(1, 1), 3), (two.format(2, 1), 3),
            (two.format(1, 2), 2), (two.format(0, 1), 3), (POINT, 6), (PARALLEL, 4), (FAN, 3), (FAN + "\nload a 1", 4),
        ):
            with self.subTest(text=text):
                self.assert_same(classes(Bench(text)), many)
                self.assertEqual(own_count(Bench(text)), many)

    def test_against_a_count_by_points(self):
        crowds = set()
        for bench in drawn_benches(84, 150, most_lines=40, most_settings=300) + [Bench(LIT), Bench(MOST), Bench(CROWD)]:
            if own_count(bench) <= 400:
                with self.subTest(text=bench.text):
                    self.assert_same(classes(bench), own_count(bench))
                    crowds.update(len(found) for found in meetings(own_lines(bench)).values())
        self.assertLessEqual({2, 3, 4, 5}, crowds)

    def test_just_400(self):
        self.assert_same([classes(Bench(MOST)), len(samples(Bench(MOST)))], [400, 400])
        self.assert_same(classes(bench=Bench(MOST)), 400)
        self.assert_same(shows_samples(Bench(MOST), samples(Bench(MOST))), True)

    def test_too_many(self):
        for text in (MORE, CROWDED, FULL):
            bench = Bench(text)
            for call in (classes, samples):
                self.assert_number(TooMany, 400, call, bench)
            for value in (samples(Bench(PAIR)), samples(Bench(MOST)), (), [], None, Source((1, 1), (1, 1)), bench):
                self.assert_number(TooMany, 400, shows_samples, bench, value)
        for value in any_values():
            self.assert_number(TooMany, 400, shows_samples, Bench(MORE), value)

    def test_some_more_than_400(self):
        seen = 0
        for bench in drawn_benches(85, 150, most_lines=90, most_settings=300):
            if len(own_lines(bench)) > 50 and own_count(bench) > 400:
                seen += 1
                self.assert_number(TooMany, 400, classes, bench)
                self.assert_number(TooMany, 400, samples, bench)
                self.assert_number(TooMany, 400, shows_samples, bench, ())
        self.assertGreater(seen, 2)

    def test_lines_and_line_ups_of_too_many(self):
        self.assertEqual(own_count(Bench(MORE)), 401)
        for text in (MORE, CROWDED):
            bench = Bench(text)
            self.assert_same(lines(bench), in_sequence(own_lines(bench)))
            self.assert_same(line_up(bench, Source((9, 1), (1, 7))), in_sequence(class_of(bench, Source((9, 1), (1, 7)))))


class Samples(Case):

    def test_one_of_each_class(self):
        texts = [POINT, PARALLEL, FAN, ONE, PAIR]
        for bench in drawn_benches(86, 80) + [Bench(text) for text in texts]:
            with self.subTest(text=bench.text):
                found = samples(bench)
                self.assertIs(type(found), tuple)
                self.assertEqual({type(source) for source in found}, {Source})
                self.assertEqual(len({line_up(bench, source) for source in found}), len(found))
                self.assert_same([len(found), shows_samples(bench, found)], [own_count(bench), True])
                self.assertEqual({class_of(bench, source) for source in found}, set(own_points(bench)))
                self.assertEqual([samples(bench=bench), samples(bench)], [found, found])

    def test_larger_benches(self):
        for bench in drawn_benches(91, 30, most_lines=40, most_settings=300) + [Bench(LIT), Bench(CROWD), Bench(MOST)]:
            if own_count(bench) <= 400:
                found = samples(bench)
                self.assert_same([right_samples(bench, found), shows_samples(bench, found)], [True, True])


class Shows(Case):

    def test_any_sources_in_any_sequence(self):
        rng = random.Random(87)
        for bench in drawn_benches(87, 50) + [Bench(text) for text in (PAIR, POINT, PARALLEL, FAN, ONE)]:
            points = own_points(bench)
            for _ in range(5):
                found = [source_of(rng.choice(points[one])) for one in points]
                rng.shuffle(found)
                self.assert_same(shows_samples(bench, tuple(found)), True)
                self.assert_same(shows_samples(bench=bench, value=tuple(found)), True)
                self.assert_same([shows_samples(bench, found), shows_samples(bench, (tuple(found),))], [False, False])

    def test_one_out_or_twice(self):
        rng = random.Random(88)
        for bench in drawn_benches(88, 20) + [Bench(PAIR)]:
            points = own_points(bench)
            right = samples(bench)
            for k, source in enumerate(right):
                alike = source_of(rng.choice(points[class_of(bench, source)]))
                self.assert_same(shows_samples(bench, right[:k] + (alike,) + right[k + 1:]), True)
                for wrong in (right[:k] + right[k + 1:], right + (alike,), right[:k] + (source,) + right[k:], right[:k]):
                    self.assert_same(shows_samples(bench, wrong), False)
                if len(right) > 1:
                    self.assert_same(shows_samples(bench, right[:k] + (right[k - 1],) + right[k + 1:]), False)

    def test_other_kinds(self):
        for bench in (Bench(PAIR), Bench(ONE)):
            right = samples(bench)
            for value in any_values() + [(None,), ((), ()), (right,), list(right), {0: right}, (0,), ("a",)]:
                self.assert_same(shows_samples(bench, value), False)
            for value in any_values() + [(right[0].volts, right[0].ohms), [right[0]], (right[0],)]:
                if type(value) is not Source:
                    self.assert_same(shows_samples(bench, (value,) + right[1:]), False)
                    self.assert_same(shows_samples(bench, right + (value,)), False)
                    self.assert_same(shows_samples(bench, right[:-1] + (value,)), False)

    def test_sources_of_another_bench(self):
        benches = drawn_benches(89, 25)
        for one in benches:
            for other in benches:
                found = samples(other)
                self.assert_same(shows_samples(one, found), right_samples(one, found))

    def test_bent_values(self):
        rng = random.Random(90)
        seen = {True: 0, False: 0}
        for bench in drawn_benches(90, 60) + [Bench(PAIR)]:
            points = own_points(bench)
            others = tuple(source_of(rng.choice(found)) for found in points.values())[:6]
            for value in bent(rng, samples(bench), others, 30):
                wanted = right_samples(bench, value)
                seen[wanted] += 1
                with self.subTest(text=bench.text, value=value):
                    self.assert_same(shows_samples(bench, value), wanted)
        self.assertGreater(min(seen.values()), 20)


if __name__ == "__main__":
    unittest.main()
