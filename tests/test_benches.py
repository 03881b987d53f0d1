"""Section 5: what a bench tells."""

import itertools
import operator
import unittest

from rangehunt.benches import Bench
from rangehunt.errors import BadSpread, LastMeter, NoLoad, NoMeter
from rangehunt.sources import Source
from tests.tools import FULL, PAIR, Case, any_values, fraction, nested, pair_of

ONE = "meter only\n  range all load 1 unit 1"


def drop(text, *numbers):
    """The text without the lines of these numbers."""
    return "\n".join(line for k, line in enumerate(text.split("\n"), 1) if k not in numbers)


class Telling(Case):

    def test_the_example(self):
        pair = Bench(PAIR)
        found = [pair.meters, pair["wide"][1], pair.first, len(pair.settings), pair.spread_by(2)["wide"][1][3]]
        wanted = [("wide", "side"), ("high", (4, 1), (1, 1), (2, 1), None), (("low", "fine"), ()), 4, (9, 5)]
        self.assert_same(found, wanted)

    def test_text(self):
        for text in (PAIR, FULL, ONE):
            self.assert_same(Bench(text).text, text)
            self.assert_same(Bench(text=text).text, text)

    def test_names(self):
        self.assert_same([Bench(PAIR).meters, Bench(PAIR).loads], [("wide", "side"), ()])
        self.assert_same([Bench(FULL).meters, Bench(FULL).loads], [("wide", "wid", "widest"), ("wide", "lamp")])
        self.assert_same([Bench(ONE + "\nload b 1\nload a 1").loads, Bench(ONE).meters], [("b", "a"), ("only",)])

    def test_spread(self):
        self.assert_same([Bench(PAIR).spread, Bench(FULL).spread], [0, 3])
        for many in range(1, 21):
            self.assert_same(Bench(f"spread {many}\n{PAIR}").spread, many)

    def test_ranges(self):
        self.assert_same(Bench(PAIR)["side"], (
            ("fine", (1, 1), (1, 10), None, (11, 4)), ("rough", (0, 1), (1, 1), (5, 2), None),
        ))
        full = Bench(FULL)
        self.assert_same(full["wide"], (
            ("low", (2, 1), (1, 10), None, (4, 1)), ("lower", (1, 3), (1, 2), (17, 10), (9, 2)),
            ("high", (4, 1), (1, 1), (153, 40), None),
        ))
        self.assert_same(full["wid"], (("low", (0, 1), (5, 1), None, None),))
        self.assert_same(full["widest"], (
            ("d", (1, 1), (1, 1), None, (1, 1)), ("c", (9999, 1), (9999, 9998), (0, 1), (3, 2)),
            ("load", (3, 2), (1, 1), (17, 40), (9999, 1)), ("a", (1, 9999), (1, 9999), (84983, 99990), None),
        ))

    def test_lower_thresholds_with_a_spread(self):
        for many in range(1, 21):
            for down in ("0", "1", "5/2", "20/19", "9999", "1/9999", "7/3"):
                text = f"spread {many}\nmeter m\n  range a load 1 unit 1 up 9999\n  range b load 1 unit 1 down {down}"
                above, _, below = down.partition("/")
                share = fraction((int(above), int(below or 1))) * (20 - many) / 20
                self.assert_same(Bench(text)["m"][1][3], pair_of(share))
                self.assert_same(Bench(text)["m"][0][4], (9999, 1))

    def test_no_meter(self):
        for text in (PAIR, FULL, ONE):
            bench = Bench(text)
            wrong = [value for value in any_values() if value != "wide"]
            wrong += [["wide"], ("wide",), "Wide", " wide", "wide ", "wi", "sid", "sides", "low", "lamp", "meter"]
            wrong += ["wide\n", "widestt", 0, True, bench, nested(30), bench.meters, list(bench.meters)]
            for value in wrong:
                with self.subTest(value=value):
                    self.assert_refused(NoMeter, value, operator.getitem, bench, value)
                    self.assert_same(value in bench, False)
        self.assert_refused(NoMeter, "wide", operator.getitem, Bench(ONE), "wide")

    def test_contains_and_len(self):
        for text, names in ((PAIR, ("wide", "side")), (FULL, ("wide", "wid", "widest")), (ONE, ("only",))):
            bench = Bench(text)
            self.assert_same(len(bench), len(names))
            for name in ("wide", "side", "wid", "widest", "only", "low", "lamp", "a", "d", ""):
                self.assert_same(name in bench, name in names)

    def test_loads(self):
        full = Bench(FULL)
        self.assert_same([full.load("wide"), full.load("lamp"), full.load(name="wide")], [(7, 1), (0, 1), (7, 1)])
        self.assert_same(Bench(ONE + "\nload lamp 3/20").load("lamp"), (3, 20))
        self.assert_same(Bench("spread 10\n" + ONE + "\nload lamp 3").load("lamp"), (3, 1))

    def test_no_load(self):
        full = Bench(FULL)
        wrong = [value for value in any_values() if value != "wide"]
        wrong += ["wid", "widest", "lam", "lamps", "low", "d", ["lamp"], ("lamp",), "Lamp", "lamp ", nested(30)]
        for value in wrong:
            with self.subTest(value=value):
                self.assert_refused(NoLoad, value, full.load, value)
                self.assert_refused(NoLoad, value, full.load, name=value)
        for value in ("wide", "side", "low", "lamp"):
            self.assert_refused(NoLoad, value, Bench(PAIR).load, value)


class Settings(Case):

    def settings(self, bench):
        places = itertools.product(*[[row[0] for row in bench[meter]] for meter in bench.meters])
        loads = bench.loads
        ons = [on for many in range(len(loads) + 1) for on in itertools.combinations(loads, many)]
        return tuple(sorted(itertools.product(places, ons)))

    def test_settings_of_the_examples(self):
        self.assert_same(Bench(PAIR).settings, (
            (("high", "fine"), ()), (("high", "rough"), ()), (("low", "fine"), ()), (("low", "rough"), ()),
        ))
        self.assert_same(Bench(ONE).settings, ((("all",), ()),))

    def test_loads_that_are_on(self):
        self.assert_same(Bench(ONE + "\nload z 1\nload a 2").settings, (
            (("all",), ()), (("all",), ("a",)), (("all",), ("z",)), (("all",), ("z", "a")),
        ))
        self.assert_same(Bench(ONE + "\nload a 1\nload z 2").settings, (
            (("all",), ()), (("all",), ("a",)), (("all",), ("a", "z")), (("all",), ("z",)),
        ))
        self.assert_same(Bench(ONE + "\nload z 0").settings, ((("all",), ()), (("all",), ("z",))))

    def test_all_settings(self):
        ranges = (
            "  range {} load 1 unit 1 up 1\n  range {} load 1 unit 1 down 1 up 2\n"
            "  range {} load 1 unit 1 down 1 up 3\n  range {} load 1 unit 1 down 1"
        )
        most = "\n".join(f"meter {name}\n{ranges.format(*words.split())}" for name, words in (
            ("m", "d c b a"), ("k", "b ba a aa"), ("n", "low high load meter"),
        ))
        texts = [PAIR, FULL, ONE, most, most + "\nload z 1", most + "\nload z 1\nload m 1", drop(FULL, 13, 14)]
        for text, many in zip(texts, (4, 48, 1, 64, 128, 256, 12)):
            bench = Bench(text)
            self.assertEqual(len(bench.settings), many)
            self.assert_same(bench.settings, self.settings(bench))

    def test_first(self):
        self.assert_same(Bench(PAIR).first, (("low", "fine"), ()))
        self.assert_same(Bench(FULL).first, (("low", "low", "d"), ()))
        self.assert_same(Bench(ONE + "\nload a 1").first, (("all",), ()))


class Without(Case):

    def test_without_each_meter(self):
        full = Bench(FULL)
        for meter, numbers in (("wide", (2, 3, 4, 5)), ("wid", (6, 7)), ("widest", (8, 9, 10, 11, 12))):
            made = full.without(meter)
            self.assertIs(type(made), Bench)
            self.assert_same(made.text, drop(FULL, *numbers))
            self.assert_same(made.meters, tuple(name for name in full.meters if name != meter))
            self.assert_same([made.spread, made.loads], [3, ("wide", "lamp")])
            for name in made.meters:
                self.assert_same(made[name], full[name])
            self.assert_refused(NoMeter, meter, made.without, meter)
        self.assert_same(full.without(meter="wid").without(meter="wide").text, drop(FULL, *range(2, 8)))

    def test_without_the_only_one(self):
        self.assert_refused(LastMeter, "only", Bench(ONE).without, "only")
        self.assert_refused(LastMeter, "only", Bench(ONE).without, meter="only")
        self.assert_refused(LastMeter, "wide", Bench(PAIR).without("side").without, "wide")

    def test_without_no_meter(self):
        for text in (PAIR, FULL, ONE):
            bench = Bench(text)
            for value in [value for value in any_values() if value != "wide"] + ["w", "wides", "low", "lamp", ["wid"]]:
                with self.subTest(value=value):
                    self.assert_refused(NoMeter, value, bench.without, value)
                    self.assert_refused(NoMeter, value, bench.without, meter=value)
        self.assert_refused(NoMeter, "wide", Bench(ONE).without, "wide")

    def test_names_that_begin_one_another_or_are_words(self):
        blocks = [f"meter {name}\n  range {name} load 1 unit 1" for name in ("a", "ab", "abc")]
        bench = Bench("\n".join(blocks) + "\nload ab 1\nload a 2")
        for k, name in enumerate(("a", "ab", "abc")):
            wanted = "\n".join(blocks[:k] + blocks[k + 1:]) + "\nload ab 1\nload a 2"
            self.assert_same(bench.without(name).text, wanted)
        words = [f"meter {name}\n  range {name} load 1 unit 1" for name in ("meter", "range", "load")]
        for k, name in enumerate(("meter", "range", "load")):
            wanted = "\n".join(words[:k] + words[k + 1:]) + "\nload meter 1\nload load 2"
            self.assert_same(Bench("\n".join(words) + "\nload meter 1\nload load 2").without(name).text, wanted)


class Spreading(Case):

    def test_spread_by(self):
        for text in (PAIR, FULL, ONE):
            plain = text.replace("spread 3\n", "")
            for many in range(21):
                made = Bench(text).spread_by(many)
                self.assertIs(type(made), Bench)
                self.assert_same(made.text, f"spread {many}\n{plain}" if many else plain)
                self.assert_same(made.spread, many)
                self.assertEqual(made.spread_by(5), Bench(text).spread_by(many=5))
                for meter in made.meters:
                    for row, ahead in zip(made[meter], Bench(plain)[meter]):
                        low = ahead[3]
                        wanted = None if low is None else pair_of(fraction(low) * (20 - many) / 20)
                        self.assert_same(row, ahead[:3] + (wanted,) + ahead[4:])

    def test_bad_spread(self):
        wrong = [value for value in any_values() if type(value) is not int]
        wrong += [-1, -20, 21, 22, 999999999, True, False, "5", "", (5,), [5], (5, 1), Source((5, 1), (1, 1))]
        for text in (PAIR, FULL):
            for value in wrong:
                with self.subTest(value=value):
                    self.assert_refused(BadSpread, value, Bench(text).spread_by, value)
                    self.assert_refused(BadSpread, value, Bench(text).spread_by, many=value)

    def test_the_bench_stays_as_it_was(self):
        for text in (PAIR, FULL):
            bench, alike = Bench(text), Bench(text)
            for many in (0, 4, 20):
                bench.spread_by(many)
            for meter in bench.meters:
                bench.without(meter)
            self.raised(NoMeter, bench.without, "none")
            self.raised(NoMeter, operator.getitem, bench, 0)
            self.raised(NoLoad, bench.load, "none")
            self.raised(BadSpread, bench.spread_by, 21)
            for other in (alike, Bench(text)):
                self.assertEqual(bench, other)
                self.assert_same(
                    [bench.text, bench.meters, bench.loads, bench.spread, bench.settings, bench.first, len(bench)],
                    [other.text, other.meters, other.loads, other.spread, other.settings, other.first, len(other)],
                )
                self.assert_same([bench[meter] for meter in bench.meters], [other[meter] for meter in other.meters])
                self.assert_same([bench.load(name) for name in bench.loads], [other.load(name) for name in other.loads])


class Equality(Case):

    def test_equal_just_if_the_texts_are(self):
        texts = [
            PAIR, FULL, ONE, FULL.replace("spread 3", "spread 4"), PAIR + "\nload a 1", PAIR + "\nload a 2",
            PAIR + "\nload b 1", PAIR.replace("wide", "wild"), PAIR.replace("load 2", "load 3"),
            PAIR.replace("1/10", "1/9"), PAIR.replace("down 2", "down 1"), PAIR.replace("up 4", "up 5"),
            PAIR + "\nload a 1\nload b 1", PAIR + "\nload b 1\nload a 1",
            # These tell just the same thresholds.
            "spread 10\n" + PAIR.replace("down 2", "down 1"), "spread 15\n" + PAIR.replace("down 5/2", "down 5/4"),
            "spread 1\n" + ONE,
        ]
        for k, one in enumerate(texts):
            for j, other in enumerate(texts):
                first, second = Bench(one), Bench(other)
                self.assert_same([first == second, first != second], [k == j, k != j])

    def test_equal_to_what_was_made_otherwise(self):
        self.assertEqual(Bench(PAIR).spread_by(3), Bench("spread 3\n" + PAIR))
        self.assertEqual(Bench("spread 3\n" + PAIR).spread_by(0), Bench(PAIR))
        self.assertEqual(Bench(PAIR).without("wide"), Bench(drop(PAIR, 1, 2, 3)))

    def test_equal_to_nothing_else(self):
        bench = Bench(FULL)
        for value in any_values() + [FULL, (FULL,), bench.meters, bench.settings, bench.text]:
            with self.subTest(value=value):
                self.assert_same([bench == value, value == bench, bench != value], [False, False, True])


if __name__ == "__main__":
    unittest.main()
