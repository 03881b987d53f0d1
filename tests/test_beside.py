"""Section 12: two benches beside each other."""

import random
import unittest

from rangehunt.benches import Bench
from rangehunt.beside import alike, shows_alike
from rangehunt.classes import classes, line_up
from rangehunt.errors import BadSetting, TooMany, Unlike
from rangehunt.resting import rests
from rangehunt.sources import Source
from rangehunt.stepping import steps, walked
from tests.drawn import METERS, bent, drawn_benches, drawn_text, source_of
from tests.tools import CROWDED, FULL, LIT, MORE, MOST, PAIR, Case, any_values, fraction, is_same, near_settings
from tests.world import count_among, own_lines, points_among, remembered, world_of

WEAK = Source((90, 1), (10, 1))
ALONE = PAIR[:PAIR.index("\nmeter side")]
LOW, HIGH = (("low",), ()), (("high",), ())


@remembered
def points_by_text(one, text):
    return points_among(own_lines(one) | own_lines(Bench(text)))


def own_both(one, other):
    """Points by the classes of both benches."""
    return points_by_text(one, other.text)


def class_of_both(one, other, source):
    volts, ohms = fraction(source.volts), fraction(source.ohms)
    return frozenset(line for line in own_lines(one) | own_lines(other) if volts >= line[0] + line[1] * ohms)


def own_alike(one, other, setting):
    """Whether the same rests come from setting, on a source of each class of both."""
    sources = [source_of(points[-1]) for points in own_both(one, other).values()]
    return all(world_of(one, source).rests(setting) == world_of(other, source).rests(setting) for source in sources)


def right_parts(one, other, setting, value):
    _, source, row, is_one = value
    if type(source) is not Source or type(is_one) is not bool:
        return False
    worlds = [world_of(one, source), world_of(other, source)]
    own, further = worlds if is_one else worlds[::-1]
    goal = own.walk(setting, row)
    return goal is not None and not own.steps(goal) and goal not in further.rests(setting)


def right_alike(one, other, setting, value):
    """Whether this is right as what alike tells."""
    if type(value) is tuple and len(value) == 4 and is_same(value[0], "parts"):
        return right_parts(one, other, setting, value)
    if type(value) is not tuple or len(value) != 2 or not is_same(value[0], "alike") or type(value[1]) is not tuple:
        return False
    if not all(type(row) is tuple and len(row) == 2 and type(row[0]) is Source for row in value[1]):
        return False
    found = {class_of_both(one, other, row[0]) for row in value[1]}
    if not len(found) == len(value[1]) == count_among(own_lines(one) | own_lines(other)):
        return False
    return all(
        is_same(told, tuple(sorted(world_of(some, source).rests(setting)))) for source, told in value[1] for some in (one, other)
    )


def changed(rng, text):
    """The text of a bench like this one: with other ratios, or another spread."""
    while True:
        lines = text.split("\n")
        for _ in range(rng.choice((1, 1, 2))):
            k = rng.randrange(len(lines))
            words = lines[k].split(" ")
            at = [j for j in range(1, len(words)) if words[j - 1] in ("load", "unit", "up", "down") and words[j][:1].isdigit()]
            if words[0] == "load":
                at = [2]
            if at:
                words[rng.choice(at)] = rng.choice(("0", "1", "2", "3", "1/2", "4", "3/2"))
            lines[k] = " ".join(words)
        try:
            bench = Bench("\n".join(lines))
        except ValueError:
            continue
        return bench.spread_by(rng.choice((1, 3, 10))) if rng.randrange(3) == 0 else bench


def drawn_pairs(seed, many, most_classes=120):
    """So many pairs of like benches."""
    rng = random.Random(seed)
    found = []
    for bench in drawn_benches(seed, 3 * many) + drawn_benches(seed + 1, many, slope=1):
        other = changed(rng, bench.text)
        if len(found) < many and count_among(own_lines(bench) | own_lines(other)) <= most_classes:
            found.append((bench, other) if rng.randrange(2) else (other, bench))
    pair = Bench(PAIR)
    return found + [(pair, pair.spread_by(1)), (pair.spread_by(4), pair.spread_by(5)), (pair, pair)]


class Told(Case):

    def test_the_example(self):
        pair = Bench(PAIR)
        found = [alike(pair, Bench(PAIR.replace("1/10", "1/5")), pair.first)[0], alike(pair, pair.spread_by(1), pair.first)[0]]
        self.assert_same(found, ["alike", "parts"])

    def test_by_name(self):
        pair = Bench(PAIR)
        told = alike(setting=pair.first, other=pair.spread_by(1), one=pair)
        self.assertEqual(told, alike(pair, pair.spread_by(1), pair.first))
        self.assert_same(shows_alike(value=told, setting=pair.first, other=pair.spread_by(1), one=pair), True)

    def test_against_a_search_of_all_classes(self):
        words = {}
        for one, other in drawn_pairs(1201, 60):
            for setting in one.settings[::4]:
                told = alike(one, other, setting)
                self.assert_same(told[0], "alike" if own_alike(one, other, setting) else "parts")
                self.assert_same([right_alike(one, other, setting, told), shows_alike(one, other, setting, told)], [True, True])
                self.assertEqual(alike(one, other, setting), told)
                self.assert_same(alike(other, one, setting)[0], told[0])
                key = told[0], told[3] if told[0] == "parts" else None
                words[key] = words.get(key, 0) + 1
                if told[0] == "parts":
                    self.assert_parts(one, other, setting, told)
                else:
                    self.assert_rows(one, other, setting, told)
        self.assertGreater(min(words["alike", None], words["parts", True], words["parts", False]), 5)

    def assert_parts(self, one, other, setting, told):
        self.assertEqual(len(told), 4)
        own, further = (one, other) if told[3] else (other, one)
        goal = walked(own, setting, told[1], told[2])
        self.assert_same(steps(own, goal, told[1]), ())
        self.assertNotIn(goal, rests(further, setting, told[1]))

    def assert_rows(self, one, other, setting, told):
        self.assertEqual((len(told), len(told[1])), (2, count_among(own_lines(one) | own_lines(other))))
        ups = {(line_up(one, source), line_up(other, source)) for source, _ in told[1]}
        self.assertEqual(len(ups), len(told[1]))
        for source, goals in told[1]:
            self.assert_same([rests(one, setting, source), rests(other, setting, source)], [goals, goals])

    def test_a_bench_beside_itself(self):
        for bench in drawn_benches(1203, 12):
            told = alike(bench, Bench(bench.text), bench.first)
            self.assert_same([told[0], len(told[1])], ["alike", classes(bench)])

    def test_thresholds_that_no_setting_comes_to(self):
        # High is never left with 20, but from low the same rests come as with 19 as long as nothing goes down.
        bench = Bench("meter m\n  range low load 1 unit 1 up 4\n  range high load 1 unit 1 down 4")
        for many in (1, 7, 20):
            self.assert_same(alike(bench, bench.spread_by(many), LOW)[0], "alike")
            self.assert_same(alike(bench, bench.spread_by(many), HIGH)[0], "parts")

    def test_which_bench_parts(self):
        # With a load of 9 in high it hunts in other, and rests in one.
        one, other = Bench(ALONE), Bench(ALONE.replace("load 4", "load 9"))
        for some, further, is_one in ((one, other, True), (other, one, False)):
            told = alike(some, further, LOW)
            self.assert_same([told[0], told[3]], ["parts", is_one])

    def test_like_benches_of_unlike_ratios_and_spreads(self):
        pair = Bench(PAIR)
        for text in (PAIR.replace("load 1", "load 9999"), PAIR.replace("unit 1/10", "unit 7/3"), "spread 20\n" + PAIR, PAIR.replace("up 4", "up 3"),
                     PAIR.replace("down 2", "down 0")):
            self.assertIn(alike(pair, Bench(text), pair.first)[0], ("alike", "parts"))


class Refused(Case):

    def assert_unlike(self, one, other, setting):
        self.assert_refused(Unlike, other, alike, one, other, setting)
        self.assert_refused(Unlike, other, alike, one, setting=setting, other=other)
        for value in (("alike", ()), None, ("parts", WEAK, (), True)):
            self.assert_refused(Unlike, other, shows_alike, one, other, setting, value)

    def test_any_values(self):
        for text in (LIT, MORE, "meter m\n  range a load 1 unit 1"):
            one = Bench(text)
            for wrong in any_values() + [one.text, one.settings, (one,), [one], one.meters, {"one": one}]:
                for setting in (one.first, None, (one.first,)):
                    self.assert_unlike(one, wrong, setting)

    def test_benches_that_are_like_but_for_one_thing(self):
        one = Bench(LIT)
        lines = LIT.split("\n")
        texts = [LIT.replace(f" {old} ", f" {new} ") for old, new in (("low", "lowe"), ("lo", "l"), ("fine", "fin"), ("fin", "finer"), ("f", "g"))
                 if LIT.count(f" {old} ") == 1 and f" {new} " not in LIT]
        texts += [LIT.replace("meter b\n", "meter c\n"), LIT.replace("meter ba", "meter bab"), LIT.replace("load z 3", "load y 3"),
                  LIT.replace("load b 1/2", "load a 1/2"), "\n".join(lines[:-1]), "\n".join(lines[:-2]),
                  "\n".join(lines[:-2] + lines[:-3:-1]), "\n".join(lines[3:7] + lines[:3] + lines[7:]), one.without("b").text, one.without("ba").text]
        texts += [LIT.replace("range low ", "range x ").replace("range lo ", "range low ").replace("range x ", "range lo ")]
        texts += [LIT.replace(" down 0 up 3\n  range f load 0 unit 1 down 5/2", " down 0"), LIT.replace("load z 3", "meter c\n  range a load 0 unit 1\nload z 3")]
        texts += [LIT.replace("range lo load 4 unit 1 down 2", "range lo load 4 unit 1 down 2 up 9\n  range l load 1 unit 1 down 1")]
        self.assertGreater(len(texts), 14)
        for text in texts:
            for one_text, other_text in ((LIT, text), (text, LIT)):
                some = Bench(one_text)
                self.assert_unlike(some, Bench(other_text), some.first)
                self.assert_unlike(some, Bench(other_text), None)

    def test_drawn_benches_of_other_names(self):
        rng = random.Random(1205)
        benches = [Bench(drawn_text(rng)) for _ in range(30)]
        seen = set()
        for one in benches:
            for other in benches:
                names = [(some.meters, [[row[0] for row in some[meter]] for meter in some.meters], some.loads) for some in (one, other)]
                seen.add(names[0] == names[1])
                if names[0] != names[1]:
                    self.assert_refused(Unlike, other, alike, one, other, one.first)
        self.assertEqual((seen, len(METERS)), ({True, False}, 3))

    def test_wrong_settings_behind_unlike_benches(self):
        for text in (PAIR, LIT, FULL):
            one = Bench(text)
            other = one.spread_by(7)
            for wrong in near_settings(one):
                self.assert_refused(BadSetting, wrong, alike, one, other, wrong)
                self.assert_refused(BadSetting, wrong, shows_alike, one, other, wrong, None)
                self.assert_refused(BadSetting, wrong, shows_alike, one=one, other=other, setting=wrong, value=("alike", ()))

    def test_too_many_classes_of_both(self):
        most = Bench(MOST)
        self.assert_same([classes(most), classes(most.spread_by(5))], [400, 343])
        for one, other in ((most, most.spread_by(5)), (most.spread_by(5), most), (Bench(MORE), Bench(MORE)), (Bench(MORE), Bench(MORE).spread_by(20)),
                           (Bench(CROWDED), Bench(CROWDED).spread_by(1))):
            for setting in (one.first, one.settings[-1]):
                self.assert_number(TooMany, 400, alike, one, other, setting)
                for value in any_values() + [("alike", ()), ("parts", WEAK, (), True)]:
                    self.assert_number(TooMany, 400, shows_alike, one, other, setting, value)
            self.assert_refused(BadSetting, None, alike, one, other, None)
            self.assert_refused(Unlike, None, alike, one, None, None)
        self.assert_same([alike(most, Bench(MOST), most.first)[0], len(alike(most, Bench(MOST), most.first)[1])], ["alike", 400])


class Shows(Case):

    def test_other_sources_and_rows(self):
        rng = random.Random(1207)
        seen = set()
        for one, other in drawn_pairs(1207, 24):
            setting = rng.choice(one.settings)
            told = alike(one, other, setting)
            points = own_both(one, other)
            seen.add(told[0])
            if told[0] == "alike":
                rows = [(source_of(rng.choice(points[class_of_both(one, other, row[0])])), row[1]) for row in told[1]]
                rng.shuffle(rows)
                self.assert_same(shows_alike(one, other, setting, ("alike", tuple(rows))), True)
                self.assert_wrong_rows(rng, one, other, setting, told[1])
            else:
                for point in points[class_of_both(one, other, told[1])]:
                    self.assert_same(shows_alike(one, other, setting, told[:1] + (source_of(point),) + told[2:]), True)
                for found in points.values():
                    value = told[:1] + (source_of(rng.choice(found)),) + told[2:]
                    self.assert_same(shows_alike(one, other, setting, value), right_alike(one, other, setting, value))
        self.assertEqual(seen, {"alike", "parts"})

    def assert_wrong_rows(self, rng, one, other, setting, rows):
        for k in rng.sample(range(len(rows)), min(4, len(rows))):
            source, goals = rows[k]
            for wrong in (rows[:k] + rows[k + 1:], rows + rows[k:k + 1], list(rows), rows[:k] + (list(rows[k]),) + rows[k + 1:]):
                self.assert_same(shows_alike(one, other, setting, ("alike", wrong)), False)
            for told in (goals + goals, goals[:-1] if goals else (LOW,), list(goals), goals + (setting,), None, {}, (goals,), ("low",), goals + ((),),
                         goals[::-1], tuple(list(goal) for goal in goals), one.settings, True, ""):
                value = ("alike", rows[:k] + ((source, told),) + rows[k + 1:])
                self.assert_same(shows_alike(one, other, setting, value), right_alike(one, other, setting, value))
            for row in ((source,), (source, goals, ()), (goals, source), ((source.volts, source.ohms), goals), (None, goals), ()):
                self.assert_same(shows_alike(one, other, setting, ("alike", rows[:k] + (row,) + rows[k + 1:])), False)

    def test_is_one(self):
        seen = set()
        for one, other in drawn_pairs(1209, 30):
            for setting in one.settings[::5]:
                told = alike(one, other, setting)
                if told[0] == "parts":
                    seen.add(told[3])
                    for is_one in (True, False, 1, 0, None, "True", "", (), (True,), [True], {}, 2, -1):
                        value = told[:3] + (is_one,)
                        self.assert_same(shows_alike(one, other, setting, value), right_alike(one, other, setting, value))
                    self.assert_same(shows_alike(one, other, setting, told[:3] + (int(told[3]),)), False)
        self.assertEqual(seen, {True, False})

    def test_rests_that_part_in_either_bench(self):
        # On 20 volts behind 1 ohm it rests in high in one, and with an upper threshold of 7 in low in other.
        one, other, source = Bench(ALONE), Bench(ALONE.replace("up 4", "up 7")), Source((20, 1), (1, 1))
        up = (("wide", "up"),)
        for value, wanted in (
            (("parts", source, up, True), True), (("parts", source, (), False), True), (("parts", source, up, False), False),
            (("parts", source, (), True), False), (("parts", source, up + up, True), False), (("parts", source, list(up), True), False),
            (("parts", source, (["wide", "up"],), True), False), (("parts", source, up, True, ()), False), (("parts", source, up), False),
            (("parts", Source((11, 1), (1, 1)), up, True), False), (("parts", Source((99, 1), (1, 1)), up, True), False),
            (("parts", ((20, 1), (1, 1)), up, True), False), (("part", source, up, True), False), (("alike", source, up, True), False),
            (["parts", source, up, True], False), (("parts", source, None, True), False), (("parts", None, up, True), False),
        ):
            self.assert_same([shows_alike(one, other, LOW, value), right_alike(one, other, LOW, value)], [wanted, wanted])
            if wanted:
                turned = value[:3] + (not value[3],)
                self.assert_same([shows_alike(other, one, LOW, value), shows_alike(other, one, LOW, turned)], [False, True])

    def test_other_values(self):
        for one, other in drawn_pairs(1211, 5):
            for setting in (one.first, one.settings[-1]):
                told = alike(one, other, setting)
                for wrong in any_values() + [list(told), told + ((),), told[:1], told[1:], (told,), told[::-1]]:
                    self.assert_same(shows_alike(one, other, setting, wrong), False)
                    self.assert_same(shows_alike(one, other, setting, ("alike", wrong)), False)
                    value = told[:1] + (wrong,) + told[2:]
                    self.assert_same(shows_alike(one, other, setting, value), right_alike(one, other, setting, value))
                for word in ("alike", "parts", "one", "", None, True, ("alike",)):
                    if word != told[0]:
                        self.assert_same(shows_alike(one, other, setting, (word,) + told[1:]), False)

    def test_bent_values(self):
        rng = random.Random(1213)
        seen = {}
        for one, other in drawn_pairs(1213, 30, most_classes=40):
            points = list(own_both(one, other).values())
            others = tuple(source_of(rng.choice(rng.choice(points))) for _ in range(4)) + one.settings[:2] + (True, False)
            setting = rng.choice(one.settings)
            told = alike(one, other, setting)
            for value in bent(rng, told, others, 24):
                wanted = right_alike(one, other, setting, value)
                seen[told[0], wanted] = seen.get((told[0], wanted), 0) + 1
                with self.subTest(one=one.text, other=other.text, setting=setting, value=value):
                    self.assert_same(shows_alike(one, other, setting, value), wanted)
        self.assertGreater(min(seen[word, is_right] for word in ("alike", "parts") for is_right in (True, False)), 4)


if __name__ == "__main__":
    unittest.main()
