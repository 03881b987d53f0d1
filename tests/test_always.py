"""Section 9: what holds whatever the source."""

import random
import unittest
from itertools import permutations

from rangehunt.always import alone, calm, comes, keeps, shows_alone, shows_calm, shows_comes, shows_keeps
from rangehunt.benches import Bench
from rangehunt.classes import classes, samples
from rangehunt.errors import TooMany
from rangehunt.resting import reached, rests, ring, shows_ring
from rangehunt.sources import Source
from rangehunt.stepping import steps, turned, walked
from tests.drawn import bent, drawn_benches, source_of
from tests.tools import CROWDED, LIT, MORE, MOST, PAIR, Case, any_values
from tests.world import class_of, going_on, own_points, right_alone, right_calm, right_comes, right_keeps, world_of

WEAK = Source((90, 1), (10, 1))
NONE = Source((0, 1), (0, 1))
RING = (("side", "up"), ("wide", "up"), ("side", "down"), ("wide", "down"))
PAIR_ALONE = PAIR[:PAIR.index("\nmeter side")]
LAMP = PAIR_ALONE + "\nload lamp 3"
LOW, HIGH = ("low",), ("high",)
# On 4 volts behind 1 ohm one of the two goes up, and the other one then rests.
EITHER = "\n".join(f"meter {name}\n  range low load 0 unit 1 up 4\n  range high load 2 unit 1 down 1/2" for name in ("b", "a"))
ONE = "meter m\n  range a load 1 unit 1"

# Each function of a setting alone, with what shows it and what is right.
OF_SETTINGS = ((calm, shows_calm, right_calm), (alone, shows_alone, right_alone), (keeps, shows_keeps, right_keeps))


def drawn(seed, many):
    """Benches of all sorts, so that each word is told of some."""
    return drawn_benches(seed, many) + drawn_benches(seed + 1, many // 2, slope=1) + drawn_benches(seed + 2, many // 2, hands=2)


def worlds_of(bench):
    """The worlds of a source of each class."""
    return [world_of(bench, source_of(points[-1])) for points in own_points(bench).values()]


def all_told(bench, setting, goals):
    """(value, shows, right) for each function, with shows and right of values alone."""
    found = []
    for tell, shows, right in OF_SETTINGS:
        found.append((tell(bench, setting), lambda value, shows=shows: shows(bench, setting, value),
                      lambda value, right=right: right(bench, setting, value)))
    for goal in goals:
        found.append((comes(bench, setting, goal), lambda value, goal=goal: shows_comes(bench, setting, goal, value),
                      lambda value, goal=goal: right_comes(bench, setting, goal, value)))
    return found


class Examples(Case):

    def test_the_example(self):
        pair = Bench(PAIR)
        found = [calm(some, some.first)[0] for some in (pair, pair.without("side"), pair.without("wide"))]
        self.assert_same(found, ["hunts", "calm", "calm"])
        found = [
            comes(pair, pair.first, (("high", "rough"), ()))[0], comes(pair, pair.first, (("high", "fine"), ()))[0],
            alone(pair.without("side"), (LOW, ()))[0],
        ]
        self.assert_same(found, ["comes", "comes", "one"])
        lit = Bench(pair.without("side").text + "\nload lamp 3")
        self.assert_same([keeps(lit, (LOW, ()))[0], keeps(lit, (LOW, ("lamp",)))[0]], ["keeps", "moved"])

    def test_of_one_range(self):
        bench = Bench(ONE)
        first = bench.first
        for tell, word, told in ((calm, "calm", (first,)), (alone, "one", (first,)), (keeps, "keeps", (first,))):
            found = tell(bench, first)
            self.assert_same([found[0], len(found[1]), found[1][0][1]], [word, 1, told])
        found = comes(bench, first, first)
        self.assert_same([found[0], found[2]], ["comes", ()])

    def test_either_one_rests(self):
        bench = Bench(EITHER)
        self.assert_same([calm(bench, bench.first)[0], alone(bench, bench.first)[0]], ["hunts", "two"])
        for ranges in (("high", "low"), ("low", "high")):
            self.assert_same(comes(bench, bench.first, (ranges, ()))[0], "comes")
            self.assert_same(alone(bench, (ranges, ()))[0], "one")
        self.assert_same(comes(bench, (("high", "high"), ()), (("low", "low"), ()))[0], "comes")


class Words(Case):
    """The words that are told, against a search of all classes, and their evidence."""

    def test_calm(self):
        words = set()
        for bench in drawn(910, 60):
            for setting in bench.settings[::4]:
                told = calm(bench, setting)
                words.add(told[0])
                self.assert_same(told[0], "hunts" if any(world.can_hunt(setting) for world in worlds_of(bench)) else "calm")
                self.assert_same([right_calm(bench, setting, told), shows_calm(bench, setting, told)], [True, True])
                self.assert_same(calm(bench=bench, setting=setting)[0], told[0])
                self.assertEqual(calm(bench, setting), told)
                if told[0] == "hunts":
                    start = walked(bench, setting, told[1], told[2])
                    self.assert_same([len(told), walked(bench, start, told[1], told[3])], [4, start])
                    self.assertNotEqual(told[3], ())
                else:
                    self.assert_rows(bench, told)
                    for source, order in told[1]:
                        self.assert_same(tuple(sorted(order)), reached(bench, setting, source))
        self.assertEqual(words, {"calm", "hunts"})

    def test_comes(self):
        words = set()
        for bench in drawn(920, 30):
            for setting in bench.settings[::7]:
                for goal in bench.settings[::5]:
                    told = comes(bench, setting, goal)
                    words.add(told[0])
                    wanted = any(goal in world.rests(setting) for world in worlds_of(bench))
                    self.assert_same(told[0], "comes" if wanted else "never")
                    found = [right_comes(bench, setting, goal, told), shows_comes(bench, setting, goal, told)]
                    self.assert_same(found, [True, True])
                    self.assertEqual(comes(bench=bench, setting=setting, goal=goal), told)
                    if told[0] == "comes":
                        self.assert_same([len(told), walked(bench, setting, told[1], told[2])], [3, goal])
                        self.assert_same(steps(bench, goal, told[1]), ())
                    else:
                        self.assert_rows(bench, told)
        self.assertEqual(words, {"comes", "never"})

    def test_alone(self):
        words = set()
        for bench in drawn(930, 60):
            for setting in bench.settings[::4]:
                told = alone(bench, setting)
                words.add(told[0])
                wanted = all(len(world.rests(setting)) < 2 for world in worlds_of(bench))
                self.assert_same(told[0], "one" if wanted else "two")
                self.assert_same([right_alone(bench, setting, told), shows_alone(bench, setting, told)], [True, True])
                self.assertEqual(alone(bench=bench, setting=setting), told)
                if told[0] == "two":
                    ends = [walked(bench, setting, told[1], row) for row in told[2:]]
                    self.assert_same([len(ends), ends[0] == ends[1]], [2, False])
                    self.assert_same([steps(bench, end, told[1]) for end in ends], [(), ()])
                else:
                    self.assert_rows(bench, told)
                    for source, found in told[1]:
                        self.assert_same(found, rests(bench, setting, source))
        self.assertEqual(words, {"one", "two"})

    def test_keeps(self):
        words = set()
        for bench in drawn(940, 50):
            for setting in bench.settings[::5]:
                told = keeps(bench, setting)
                words.add((told[0], len(bench.loads)))
                moved = [world.moved(setting, one) for world in worlds_of(bench) for one in going_on(setting, world.deeds)]
                self.assert_same(told[0], "moved" if any(moved) else "keeps")
                self.assert_same([right_keeps(bench, setting, told), shows_keeps(bench, setting, told)], [True, True])
                self.assertEqual(keeps(bench=bench, setting=setting), told)
                if told[0] == "moved":
                    self.assert_moved(bench, setting, told)
                else:
                    self.assert_rows(bench, told)
        self.assertLessEqual({("keeps", 0), ("keeps", 1), ("keeps", 2), ("moved", 1), ("moved", 2)}, words)
        self.assertNotIn(("moved", 0), words)

    def assert_rows(self, bench, told):
        """Rows, one for each class, in pairs."""
        self.assertEqual(len(told), 2)
        self.assertIs(type(told[1]), tuple)
        self.assertEqual({(type(row), len(row)) for row in told[1]}, {(tuple, 2)})
        self.assertEqual(len({class_of(bench, row[0]) for row in told[1]}), classes(bench))
        self.assertEqual(len(told[1]), classes(bench))

    def assert_moved(self, bench, setting, told):
        self.assertEqual(len(told), 3)
        here = setting
        for deed in told[2]:
            here = turned(bench, here, deed[0]) if len(deed) == 1 else walked(bench, here, told[1], (deed,))
        self.assert_same([steps(bench, here, told[1]), here[1]], [(), setting[1]])
        self.assertNotIn(here, reached(bench, setting, told[1]))


class TooManyClasses(Case):

    def test_just_400(self):
        bench = Bench(MOST)
        for setting in (bench.first, bench.settings[0]):
            for tell, shows, _ in OF_SETTINGS:
                self.assert_same(shows(bench, setting, tell(bench, setting)), True)
            goal = bench.settings[5]
            self.assert_same(shows_comes(bench, setting, goal, comes(bench, setting, goal)), True)

    def test_more_than_400(self):
        pair, few = Bench(PAIR), Bench(LAMP)
        told = [calm(pair, pair.first), calm(few, few.first), alone(few, few.first), keeps(few, few.first)]
        told += [("hunts", WEAK, (), ()), ("calm", ()), (), None, 0, "calm"]
        for text in (MORE, CROWDED):
            bench = Bench(text)
            for tell, shows, _ in OF_SETTINGS:
                self.assert_number(TooMany, 400, tell, bench, bench.first)
                for value in told:
                    self.assert_number(TooMany, 400, shows, bench, bench.first, value)
            self.assert_number(TooMany, 400, comes, bench, bench.first, bench.first)
            for value in told:
                self.assert_number(TooMany, 400, shows_comes, bench, bench.first, bench.first, value)

    def test_whatever_the_value(self):
        bench = Bench(MORE)
        for value in any_values():
            for _, shows, _ in OF_SETTINGS:
                self.assert_number(TooMany, 400, shows, bench, bench.first, value)
            self.assert_number(TooMany, 400, shows_comes, bench, bench.first, bench.first, value)


class ShowsOthers(Case):
    """Values that are right or wrong by the sources and the sequence of their rows."""

    def test_rows_in_any_sequence_with_any_sources_of_their_classes(self):
        rng = random.Random(951)
        for bench in drawn(950, 16):
            points = own_points(bench)
            for value, shows, right in all_told(bench, rng.choice(bench.settings), bench.settings[:3]):
                if len(value) == 2:
                    for _ in range(3):
                        rows = [(source_of(rng.choice(points[class_of(bench, row[0])])), row[1]) for row in value[1]]
                        rng.shuffle(rows)
                        self.assert_same([shows((value[0], tuple(rows))), right((value[0], tuple(rows)))], [True, True])
                        self.assert_same(shows((value[0], rows)), False)

    def test_other_sources_of_the_same_class_in_what_happens(self):
        rng = random.Random(953)
        for bench in drawn(953, 30):
            points = own_points(bench)
            for value, shows, right in all_told(bench, rng.choice(bench.settings), bench.settings[:3]):
                if len(value) > 2:
                    for point in points[class_of(bench, value[1])]:
                        self.assert_same(shows(value[:1] + (source_of(point),) + value[2:]), True)
                    for found in points.values():
                        other = value[:1] + (source_of(rng.choice(found)),) + value[2:]
                        self.assert_same(shows(other), right(other))

    def test_rows_with_sources_of_other_classes(self):
        rng = random.Random(955)
        for bench in drawn(955, 16):
            points = list(own_points(bench).values())
            for value, shows, right in all_told(bench, rng.choice(bench.settings), bench.settings[:2]):
                if len(value) == 2 and len(points) > 1:
                    rows = value[1]
                    for k in rng.sample(range(len(rows)), min(5, len(rows))):
                        alike = source_of(rng.choice(points[k - 1]))
                        for wrong in (
                            rows[:k] + rows[k + 1:], rows + rows[k:k + 1], rows[:k] + rows[k:k + 1] + rows[k:],
                            rows[:k] + (rows[k - 1],) + rows[k + 1:], rows[:k] + ((rows[k - 1][0], rows[k][1]),) + rows[k + 1:],
                            rows + ((alike, rows[k][1]),),
                        ):
                            self.assert_same(shows((value[0], wrong)), False)
                        turned_about = [(rows[k - 1][0], rows[k][1]) if j == k else (rows[k][0], rows[k - 1][1]) if j == (k - 1) % len(rows)
                                        else row for j, row in enumerate(rows)]
                        changed = (value[0], tuple(turned_about))
                        self.assert_same(shows(changed), right(changed))

    def test_values_of_other_benches_settings_and_goals(self):
        rng = random.Random(957)
        for bench in drawn(957, 12):
            told = all_told(bench, rng.choice(bench.settings), bench.settings[:3])
            for value, _, _ in told:
                for _, shows, right in told + all_told(bench, rng.choice(bench.settings), bench.settings[-1:]):
                    self.assert_same(shows(value), right(value))

    def test_kept_settings_may_be_more(self):
        # All settings are never left; but a goal that rests must not be among them.
        rng = random.Random(959)
        seen = set()
        for bench in drawn(959, 30):
            setting = rng.choice(bench.settings)
            every = tuple((source, bench.settings) for source in samples(bench))
            for _, shows, right in all_told(bench, setting, bench.settings):
                for word in ("never", "keeps"):
                    seen.add((word, right((word, every))))
                    self.assert_same(shows((word, every)), right((word, every)))
                grown = []
                for source, _ in every:
                    world = world_of(bench, source)
                    some = going_on(setting, world.deeds) | going_on(rng.choice(bench.settings), world.deeds)
                    grown.append((source, tuple(sorted(some))))
                for word in ("never", "keeps"):
                    self.assert_same(shows((word, tuple(grown))), right((word, tuple(grown))))
        self.assertLessEqual({("never", True), ("never", False), ("keeps", True), ("keeps", False)}, seen)

    def test_other_words(self):
        words = ("calm", "hunts", "comes", "never", "one", "two", "keeps", "moved", "", "Calm", "calms", None, True, 0, (), ["calm"])
        for bench in [Bench(text) for text in (PAIR, LAMP, EITHER, ONE)]:
            for value, shows, right in all_told(bench, bench.first, bench.settings):
                for word in words:
                    if word != value[0]:
                        self.assert_same([shows((word,) + value[1:]), right((word,) + value[1:])], [False, False])
                for wrong in (list(value), value[1:], value[:1], value + ((),), value + value, (value,), value[0], {value[0]: 1}, value[::-1]):
                    self.assert_same(shows(wrong), False)
                for wrong in any_values():
                    self.assert_same([shows(wrong), shows((value[0], wrong))], [False, False])
                    changed = (value[0], wrong) + value[2:]
                    self.assert_same(shows(changed), right(changed))


class ShowsHappening(Case):
    """Values that tell of a source and of steps."""

    def test_hunts(self):
        pair = Bench(PAIR)
        lower, upper = Source((86, 1), (10, 1)), Source((92, 1), (10, 1))
        for source in (WEAK, lower, upper, Source((85, 1), (10, 1)), Source((93, 1), (10, 1)), NONE, Source((9, 1), (1, 1))):
            for k in range(4):
                for around in (RING[k:] + RING[:k], RING[k:] + RING[:k] + RING, ()):
                    value = ("hunts", source, RING[:k], around)
                    self.assert_same(shows_calm(pair, pair.first, value), right_calm(pair, pair.first, value))
        self.assert_same(shows_calm(pair, pair.first, ("hunts", WEAK, (), RING)), True)
        self.assert_same(shows_calm(bench=pair, setting=pair.first, value=("hunts", WEAK, (), RING)), True)
        for wrong in (("hunts", WEAK, (), ()), ("hunts", WEAK, RING), ("hunts", (), RING), ("hunts", WEAK, (), list(RING)),
                      ("hunts", ((90, 1), (10, 1)), (), RING), ("hunts", None, (), RING), ("hunts", NONE, (), RING),
                      ("hunts", WEAK, (), RING, ()), ("calm", WEAK, (), RING), ("hunts", pair, (), RING), ("hunts", (WEAK,), (), RING)):
            self.assert_same(shows_calm(pair, pair.first, wrong), False)

    def test_steady_words_tell_of_no_single_source(self):
        # What stands beside the source is right there; but these words need rows.
        bench, source = Bench(LAMP), Source((1, 1), (0, 1))
        low, high = bench.first, (HIGH, ())
        self.assert_same([shows_ring(bench, low, source, ("calm", (low,))), rests(bench, low, source)], [True, (low,)])
        for value in (("calm", source, (low,)), ("calm", source, (), ()), ("calm", source)):
            self.assert_same(shows_calm(bench, low, value), False)
        for value in (("one", source, (low,)), ("one", source, (), ()), ("one", source)):
            self.assert_same(shows_alone(bench, low, value), False)
        for value in (("never", source, (low,)), ("never", source, bench.settings), ("never", source, ())):
            self.assert_same(shows_comes(bench, low, high, value), False)
        for value in (("keeps", source, bench.settings), ("keeps", source, ()), ("keeps", source)):
            self.assert_same(shows_keeps(bench, low, value), False)

    def test_parts_of_any_kind_in_steps_and_settings(self):
        pair, lit = Bench(PAIR), Bench(LAMP)
        for step in ((["side"], "up"), ({}, "up"), ("side", []), ("side", {"up": 1}), (["lamp"],), ([],), {}, [], (("side",), "up")):
            self.assert_same(shows_calm(pair, pair.first, ("hunts", WEAK, (), (step,) + RING[1:])), False)
            self.assert_same(shows_calm(pair, pair.first, ("hunts", WEAK, (step,), RING)), False)
            self.assert_same(shows_comes(pair, pair.first, pair.first, ("comes", NONE, (step,))), False)
            self.assert_same(shows_alone(pair, pair.first, ("two", WEAK, (step,), (step,))), False)
            self.assert_same(shows_keeps(lit, lit.first, ("moved", WEAK, (step,))), False)
        for one in ((["low"], ()), (LOW, []), (LOW, (["lamp"],)), (({},), ()), ((LOW,), ()), [], {}):
            rows = tuple((source, (one,)) for source in samples(lit))
            for _, shows, right in all_told(lit, lit.first, lit.settings):
                for word in ("calm", "never", "one", "keeps"):
                    self.assert_same([shows((word, rows)), right((word, rows))], [False, False])

    def test_comes(self):
        pair = Bench(PAIR)
        firm = Source((9, 1), (0, 1))
        goal = (("high", "rough"), ())
        for row in permutations((("side", "up"), ("wide", "up"))):
            self.assert_same(shows_comes(pair, pair.first, goal, ("comes", firm, row)), True)
            self.assert_same(shows_comes(bench=pair, setting=pair.first, goal=goal, value=("comes", firm, row)), True)
            self.assert_same(shows_comes(pair, pair.first, pair.first, ("comes", firm, row)), False)
            for wrong in (row[:1], row[1:], row + row, list(row), (), row + (("wide", "down"),), (row,), None, (row[0], list(row[1]))):
                self.assert_same(shows_comes(pair, pair.first, goal, ("comes", firm, wrong)), False)
        # Steps lead to it, but it is no rest.
        self.assert_same(shows_comes(pair, pair.first, goal, ("comes", WEAK, RING[:2])), False)
        self.assert_same(shows_comes(pair, goal, goal, ("comes", firm, ())), True)
        self.assert_same(shows_comes(pair, goal, goal, ("comes", WEAK, ())), False)

    def test_two(self):
        bench, source = Bench(EITHER), Source((4, 1), (1, 1))
        rows = ((("a", "up"),), (("b", "up"),))
        for value in (("two", source, *rows), ("two", source, *rows[::-1])):
            self.assert_same(shows_alone(bench, bench.first, value), True)
            self.assert_same(shows_alone(bench=bench, setting=bench.first, value=value), True)
        for wrong in (("two", source, rows[0], rows[0]), ("two", source, rows[0], ()), ("two", source, (), ()), ("two", source, rows),
                      ("two", NONE, *rows), ("two", source, rows[0] + rows[1], rows[1]), ("two", source, list(rows[0]), rows[1]),
                      ("two", source, rows[0], [("b", "up")]), ("two", source, *rows, rows[0]), ("two", source, rows[0]),
                      ("one", source, *rows), ("two", (source,), *rows), ("two", source, None, rows[1]), ("two", source, rows[0], None)):
            self.assert_same(shows_alone(bench, bench.first, wrong), False)

    def test_moved(self):
        bench, source = Bench(LAMP), Source((20, 1), (1, 1))
        start = (LOW, ("lamp",))
        deeds = (("lamp",), ("wide", "up"), ("lamp",))
        right = [deeds, (("lamp",), ("lamp",)) + deeds, deeds + (("lamp",), ("lamp",)), deeds[:2] + (("lamp",),) * 3]
        for one in right:
            self.assert_same(shows_keeps(bench, start, ("moved", source, one)), True)
            self.assert_same(shows_keeps(bench=bench, setting=start, value=("moved", source, one)), True)
        wrong = [(), deeds[:1], deeds[:2], deeds[1:], deeds[:2] + deeds[:2], (("lamp",), ("lamp",)), list(deeds), deeds[:2] + ("lamp",)]
        wrong += [deeds[:2] + (["lamp"],), deeds[:2] + (("lamp", "lamp"),), deeds[:2] + (("lam",),), deeds[:2] + ((),), (deeds,)]
        wrong += [deeds[:2] + (None,), (("wide", "up"),), ("lamp", ("wide", "up"), "lamp"), deeds[:1] + (("wide", "down"),) + deeds[2:]]
        wrong += [deeds[:1] + (("wide", "up"), ("wide", "up")) + deeds[2:], None, "", {}, deeds[:2] + (("wide",),), deeds + (("lamp",),)]
        for one in wrong:
            self.assert_same(shows_keeps(bench, start, ("moved", source, one)), False)
        for other in (Source((20, 1), (0, 1)), NONE, Source((10, 1), (1, 1)), ((20, 1), (1, 1)), None):
            self.assert_same(shows_keeps(bench, start, ("moved", other, deeds)), False)
        # Off for a moment: from a setting without it this leads to the loads of another setting.
        for setting in bench.settings:
            if setting != start:
                self.assert_same(shows_keeps(bench, setting, ("moved", source, deeds)), False)

    def test_a_rest_that_also_comes_by_steps_alone(self):
        bench, source = Bench(LAMP), Source((99, 1), (1, 1))
        for setting in ((LOW, ()), (LOW, ("lamp",))):
            self.assertEqual(walked(bench, setting, source, (("wide", "up"),))[0], HIGH)
            for deeds in ((("wide", "up"),), (("lamp",), ("wide", "up"), ("lamp",)), (("lamp",), ("lamp",), ("wide", "up"))):
                self.assert_same(shows_keeps(bench, setting, ("moved", source, deeds)), False)


class ShowsRows(Case):
    """Values that tell of each class."""

    def swapped_in(self, rows, k, told):
        return rows[:k] + ((rows[k][0], told),) + rows[k + 1:]

    def test_orders_and_settings_of_one_class(self):
        rng = random.Random(970)
        for text in (PAIR_ALONE, LAMP, EITHER, PAIR):
            bench = Bench(text)
            setting = rng.choice(bench.settings)
            for value, shows, right in all_told(bench, setting, bench.settings[::2]):
                rows = value[1] if len(value) == 2 else ()
                for k in rng.sample(range(len(rows)), min(4, len(rows))):
                    for one in self.near(bench, setting, rows[k]):
                        changed = (value[0], self.swapped_in(rows, k, one))
                        self.assert_same(shows(changed), right(changed))

    def near(self, bench, setting, row):
        """Values that are told beside a source, or nearly."""
        told = row[1]
        found = [told[::-1], told[1:], told[:-1], told + told[:1], list(told), (told,), (), None, told + ((LOW, ()),), [setting], {setting: 1}]
        found += [told + (one,) for one in bench.settings if one not in told]
        found += [tuple(sorted(told + (one,))) for one in bench.settings if one not in told]
        found += [told[:j] + told[j + 1:] for j in range(len(told))]
        found += [bench.settings, reached(bench, setting, row[0]), ring(bench, setting, row[0])[1], rests(bench, setting, row[0])]
        found += [(list(one),) for one in told[:1]] + [((list(one[0]), one[1]),) for one in told[:1]]
        return found + [tuple(list(one) for one in told), tuple((one,) for one in told), tuple(one[0] for one in told)]

    def test_rows_that_are_no_pairs(self):
        for text in (PAIR_ALONE, LAMP, EITHER, ONE):
            bench = Bench(text)
            for value, shows, _ in all_told(bench, bench.first, bench.settings):
                for k, row in enumerate(value[1]) if len(value) == 2 else ():
                    for wrong in (list(row), row[::-1], row + ((),), row[:1], row[1:], row[0], row[1], (), None, (row,), {},
                                  ((row[0].volts, row[0].ohms), row[1]), ((row[0],), row[1]), (None, row[1]), "ab"):
                        changed = value[1][:k] + (wrong,) + value[1][k + 1:]
                        self.assert_same([shows((value[0], changed)), shows((value[0], list(changed)))], [False, False])
                self.assert_same(shows((value[0], ())), False)

    def test_bent_values(self):
        rng = random.Random(971)
        seen = {}
        for bench in drawn(971, 50) + [Bench(text) for text in (PAIR, LAMP, EITHER, LIT)]:
            points = list(own_points(bench).values())
            others = tuple(source_of(rng.choice(rng.choice(points))) for _ in range(4)) + bench.settings[:2]
            setting = rng.choice(bench.settings)
            for value, shows, right in all_told(bench, setting, rng.sample(bench.settings, min(2, len(bench.settings)))):
                for changed in bent(rng, value, others, 16):
                    wanted = right(changed)
                    seen[value[0], wanted] = seen.get((value[0], wanted), 0) + 1
                    with self.subTest(text=bench.text, setting=setting, value=changed):
                        self.assert_same(shows(changed), wanted)
        words = ("calm", "hunts", "comes", "never", "one", "two", "keeps", "moved")
        for key in [(word, is_right) for word in words for is_right in (True, False)]:
            self.assertGreater(seen.get(key, 0), 4, key)


if __name__ == "__main__":
    unittest.main()
