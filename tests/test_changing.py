"""Section 13: the cheapest changes by which hopes come true."""

import random
import unittest
from itertools import combinations

from rangehunt.always import alone, calm, comes, keeps
from rangehunt.benches import Bench
from rangehunt.changing import cheapest, shows_cheapest
from rangehunt.errors import BadBench, BadHopes, BadOffers
from rangehunt.sources import Source
from tests.bench_reader import wrong_line
from tests.drawn import bent, drawn_benches, source_of
from tests.tools import CROWDED, LIT, MORE, MOST, PAIR, Case, any_values, is_same, near_settings
from tests.world import going_on, own_count, own_points, right_alone, right_calm, right_comes, right_keeps, world_of

WEAK = Source((90, 1), (10, 1))
ALONE = PAIR[:PAIR.index("\nmeter side")]
BOTH = "\n".join(f"meter {name}\n  range low load 1 unit 1 up 4\n  range high load 2 unit 1 down 3" for name in ("b", "a"))
OFFERS = ((3, "  range high load 4 unit 1 down 1", 2), (6, "  range rough load 0 unit 1 down 2", 1))
CALM = ("calm", (("low", "fine"), ()))
RIGHTS = {"calm": right_calm, "one": right_alone, "keeps": right_keeps, "never": right_comes}


def own_choices(offers):
    """All choices in their sequence."""
    found = [some for many in range(len(offers) + 1) for some in combinations(offers, many)]
    found = [some for some in found if len({line for line, _, _ in some}) == len(some)]
    return sorted(found, key=lambda some: (sum(price for _, _, price in some), len(some), some))


def own_bench(bench, choice):
    """The changed bench, None if there is none."""
    rows = []
    for number, line in enumerate(bench.text.split("\n"), 1):
        new = [text for at, text, _ in choice if at == number]
        rows += [text for text in new if text] if new else [line]
    text = "\n".join(rows)
    return Bench(text) if wrong_line(text) is None else None


def own_truth(bench, hope):
    """Whether the hope comes true, by a source of each class; None if its function raises anything."""
    if any(setting not in bench.settings for setting in hope[1:]) or own_count(bench) > 400:
        return None
    worlds = [world_of(bench, source_of(points[-1])) for points in own_points(bench).values()]
    if hope[0] == "calm":
        return not any(world.can_hunt(hope[1]) for world in worlds)
    if hope[0] == "one":
        return all(len(world.rests(hope[1])) <= 1 for world in worlds)
    if hope[0] == "never":
        return not any(hope[2] in world.rests(hope[1]) for world in worlds)
    return not any(world.moved(hope[1], one) for world in worlds for one in going_on(hope[1], world.deeds))


def own_counting(bench, offers, hopes):
    """(changed bench, choice, whether each hope comes true) for the choices that count, in sequence."""
    found = []
    for choice in own_choices(offers):
        some = own_bench(bench, choice)
        truths = [own_truth(some, hope) for hope in hopes] if some else [None]
        if None not in truths:
            found.append((some, choice, truths))
    return found


def right_reasons(counting, hopes, value):
    if type(value) is not tuple or len(value) != len(counting):
        return False
    for (some, choice, truths), reason in zip(counting, value):
        if type(reason) is not tuple or len(reason) != 3 or not is_same(reason[0], choice):
            return False
        if type(reason[1]) is not int or reason[1] not in range(len(hopes)) or truths[reason[1]]:
            return False
        hope = hopes[reason[1]]
        if not RIGHTS[hope[0]](some, *hope[1:], reason[2]):
            return False
    return True


def right_cheapest(bench, offers, hopes, value):
    """Whether this is right as what cheapest tells."""
    counting = own_counting(bench, offers, hopes)
    true = [k for k, row in enumerate(counting) if all(row[2])]
    if not true:
        return type(value) is tuple and len(value) == 2 and is_same(value[0], "none") and right_reasons(counting, hopes, value[1])
    if type(value) is not tuple or len(value) != 5:
        return False
    some, choice, _ = counting[true[0]]
    if not is_same(value[:3], ("choice", sum(price for _, _, price in choice), choice)):
        return False
    if type(value[3]) is not tuple or len(value[3]) != len(hopes):
        return False
    if not all(RIGHTS[hope[0]](some, *hope[1:], told) for hope, told in zip(hopes, value[3])):
        return False
    return right_reasons(counting[:true[0]], hopes, value[4])


def drawn_line(rng, bench, line):
    """A text for this line: with other numbers, or something else."""
    words = line.split(" ")
    at = [j for j in range(2, len(words)) if words[j - 1] in ("load", "unit", "up", "down") and words[j][:1].isdigit()]
    if at and rng.randrange(6):
        words[rng.choice(at)] = rng.choice(("0", "1", "2", "1/2", "1/3", "3/2"))
        return " ".join(words)
    return rng.choice(("", "", line, line + "\nload q 1", "spread 10\n" + line, "spread 20\n" + line, "meter x", line + "\n", " " + line,
                       line.replace("low", "x"), "junk", line.split(" down")[0]))


def drawn_offers(rng, bench):
    lines = bench.text.split("\n")
    found = set()
    many = rng.choice((1, 2, 3, 3, 4))
    while len(found) < many:
        at = rng.randrange(len(lines))
        found.add((at + 1, drawn_line(rng, bench, lines[at]), rng.randrange(1, 10)))
    return tuple(sorted(found))


def drawn_hopes(rng, bench):
    found = []
    while len(found) < rng.choice((1, 1, 2, 3)):
        word = rng.choice(("calm", "calm", "one", "keeps", "never"))
        hope = (word, rng.choice(bench.settings)) + ((rng.choice(bench.settings),) if word == "never" else ())
        if hope not in found:
            found.append(hope)
    return tuple(found)


def drawn(seed, many):
    """(bench, offers, hopes) of which some choices count, and some not."""
    rng = random.Random(seed)
    found = []
    for bench in drawn_benches(seed, many // 2, slope=1) + drawn_benches(seed + 1, many // 2, hands=1):
        found.append((bench, drawn_offers(rng, bench), drawn_hopes(rng, bench)))
    for _ in range(many // 4):
        pair = Bench(PAIR)
        offers = {(6, f"  range rough load 0 unit 1 down {rng.choice((1, 2, '9/4', '11/5', '5/2'))}", rng.randrange(1, 10)),
                  (3, f"  range high load {rng.choice((2, 3, 4))} unit 1 down {rng.choice((1, '3/2', 2))}", rng.randrange(1, 10)),
                  (3, f"  range high load 5 unit 1 down {rng.choice((1, '1/2', 2))}", rng.randrange(1, 10)), (1, "spread 1\nmeter wide", 2)}
        found.append((pair, tuple(sorted(offers)), (CALM,) + drawn_hopes(rng, pair)[:1] if rng.randrange(2) else (CALM,)))
    for _ in range(many // 8):
        # Each of the two meters has to be changed.
        offers = tuple(sorted({(at, f"  range high load 2 unit 1 down {rng.choice((1, 2, 2, '5/2'))}", rng.randrange(1, 10)) for at in (3, 3, 6, 6)}))
        found.append((Bench(BOTH), offers, (("calm", (("low", "low"), ())),)))
    return [row for row in found if len(set(row[2])) == len(row[2])]


class Told(Case):

    def test_the_example(self):
        pair = Bench(PAIR)
        found = cheapest(pair, OFFERS, (("calm", pair.first),))
        self.assert_same(found[:3], ("choice", 1, ((6, "  range rough load 0 unit 1 down 2", 1),)))

    def test_what_is_told_of_the_example(self):
        pair = Bench(PAIR)
        found = cheapest(hopes=(CALM,), offers=OFFERS, bench=pair)
        changed = Bench(PAIR.replace("down 5/2", "down 2"))
        self.assertEqual(found[3:], ((calm(changed, pair.first),), (((), 0, calm(pair, pair.first)),)))
        self.assert_same(shows_cheapest(value=found, hopes=(CALM,), offers=OFFERS, bench=pair), True)

    def test_against_an_own_search(self):
        seen = {}
        for bench, offers, hopes in drawn(1301, 120):
            counting = own_counting(bench, offers, hopes)
            true = [row for row in counting if all(row[2])]
            told = cheapest(bench, offers, hopes)
            with self.subTest(text=bench.text, offers=offers, hopes=hopes):
                self.assert_same(told[0], "choice" if true else "none")
                self.assert_same([right_cheapest(bench, offers, hopes, told), shows_cheapest(bench, offers, hopes, told)], [True, True])
                self.assertEqual(cheapest(bench, offers, hopes), told)
                if true:
                    choice = true[0][1]
                    self.assert_same(told[1:3], (sum(price for _, _, price in choice), choice))
                    self.assert_same(len(told), 5)
                # The first hope that does not come true is told.
                for (_, choice, truths), reason in zip(counting, told[-1]):
                    self.assert_same(reason[:2], (choice, truths.index(False)))
            key = told[0], min(len(told[2]), 2) if true else None
            seen[key] = seen.get(key, 0) + 1
            seen["left out"] = seen.get("left out", 0) + (len(counting) < len(own_choices(offers)))
        self.assertGreater(min(seen["choice", 0], seen["choice", 1], seen["none", None], seen["left out"]), 10)
        self.assertGreater(seen["choice", 2], 1)

    def test_each_hope(self):
        bench = Bench(ALONE + "\nload lamp 3")
        low, lit, high = (("low",), ()), (("low",), ("lamp",)), (("high",), ("lamp",))
        # Without the lamp nothing is moved; with a lower threshold of 4 it goes back, but may hunt.
        offers = ((4, "load lamp 0", 5), (3, "  range high load 4 unit 1 down 4", 1))[::-1]
        for hopes in ((("keeps", lit),), (("keeps", lit), ("calm", lit)), (("one", low),), (("never", low, (("high",), ())),), (("never", lit, high),),
                      (("calm", low), ("never", lit, low)), (("one", low), ("keeps", low), ("calm", low))):
            told = cheapest(bench, offers, hopes)
            self.assert_same([right_cheapest(bench, offers, hopes, told), shows_cheapest(bench, offers, hopes, told)], [True, True])
        functions = {"calm": calm, "one": alone, "keeps": keeps, "never": comes}
        for hope in (("calm", low), ("one", low), ("keeps", low), ("never", low, lit)):
            told = cheapest(bench, offers, (hope,))
            self.assertEqual(told, ("choice", 0, (), (functions[hope[0]](bench, *hope[1:]),), ()))

    def test_none(self):
        pair = Bench(PAIR)
        offers = ((6, "  range rough load 0 unit 1 down 9/4", 1), (6, "  range rough load 0 unit 2 down 9/4", 1))
        told = cheapest(pair, offers, (CALM,))
        self.assert_same([told[0], [reason[:2] for reason in told[1]]], ["none", [((), 0), (offers[:1], 0), (offers[1:], 0)]])
        self.assert_same(shows_cheapest(pair, offers, (CALM,), told), True)


class Choices(Case):

    def test_their_sequence(self):
        # Nothing helps: so all choices are told, by price, then by how many offers, then as tuples.
        bench = Bench(PAIR)
        hope = ("never", bench.first, (("high", "rough"), ()))
        lines = bench.text.split("\n")
        offers = ((1, lines[0], 3), (2, lines[1], 1), (3, lines[2], 2), (4, lines[3], 1))
        told = cheapest(bench, offers, (hope,))
        a, b, c, d = offers
        wanted = [(), (b,), (d,), (c,), (b, d), (a,), (b, c), (c, d), (a, b), (a, d), (b, c, d), (a, c), (a, b, d), (a, b, c), (a, c, d), offers]
        self.assert_same((told[0], tuple(reason[0] for reason in told[1])), ("none", tuple(wanted)))

    def test_no_line_twice(self):
        bench = Bench(PAIR)
        line = bench.text.split("\n")[5]
        offers = ((6, line, 8), (6, line, 9), (6, line.replace("5/2", "9/4"), 1), (6, line.replace("5/2", "9/4"), 2))
        told = cheapest(bench, offers, (CALM,))
        wanted = [(), (offers[2],), (offers[3],), (offers[0],), (offers[1],)]
        self.assert_same((told[0], [reason[0] for reason in told[1]]), ("none", wanted))

    def test_which_choices_count(self):
        bench = Bench(PAIR)
        # No bench by itself, but with a further line; and one that has another range.
        offers = (
            (3, "  range high load 4 unit 1 down 1 up 9", 1), (4, "  range top load 4 unit 1 down 1\nmeter side", 1),
            (5, "  range cross load 1 unit 1/10 up 11/4", 1),
        )
        hopes = (("calm", bench.first), ("never", bench.first, (("high", "rough"), ())))
        told = cheapest(bench, offers, hopes)
        self.assert_same((told[0], [reason[0] for reason in told[1]]), ("none", [(), offers[:2]]))
        self.assert_same(right_cheapest(bench, offers, hopes, told), True)
        # A hope behind the first one that does not come true may raise, too.
        hopes = (("calm", (("low", "rough"), ())), ("never", (("low", "rough"), ()), bench.first))
        told = cheapest(bench, offers, hopes)
        self.assert_same((told[0], [reason[0] for reason in told[1]]), ("none", [(), offers[:2]]))
        # Without that hope, the choice of the third offer counts.
        hopes = hopes[:1]
        told = cheapest(bench, offers, hopes)
        self.assert_same((told[:3], [reason[0] for reason in told[4]]), (("choice", 2, offers[:2]), [(), (offers[2],)]))

    def test_no_choice_may_count(self):
        for text in (MORE, CROWDED):
            bench = Bench(text)
            offers = ((1, "", 1), (2, "x", 9))
            self.assert_same(cheapest(bench, offers, (("calm", bench.first),)), ("none", ()))
            self.assert_same(shows_cheapest(bench, offers, (("calm", bench.first),), ("none", ())), True)

    def test_the_empty_choice_may_not_count(self):
        bench = Bench(MORE)
        offers = ((1, "spread 20\n" + MORE.split("\n")[0], 3), (1, "spread 1\n" + MORE.split("\n")[0], 1))[::-1]
        hopes = (("calm", bench.first),)
        told = cheapest(bench, offers, hopes)
        self.assert_same((told[:3], told[4]), (("choice", 3, offers[1:]), ()))
        self.assert_same(shows_cheapest(bench, offers, hopes, told), True)

    def test_just_400_classes(self):
        bench = Bench(MOST)
        offers = ((1, "spread 1\n" + MOST.split("\n")[0], 1), (1, "spread 5\n" + MOST.split("\n")[0], 2))
        hopes = (("calm", bench.first),)
        told = cheapest(bench, offers, hopes)
        reasons = told[-1]
        self.assert_same([reason[0] for reason in reasons][:2], [(), (offers[1],)][:len(reasons)])
        self.assert_same([shows_cheapest(bench, offers, hopes, told), own_count(bench)], [True, 400])

    def test_texts(self):
        bench = Bench(ALONE)
        lines = ALONE.split("\n")
        hopes = (("calm", (("low",), ())),)
        for offer, counts in (
            ((1, "", 1), False), ((2, "", 1), False), ((3, "", 1), False), ((1, "meter other", 1), True), ((1, lines[0] + "\n", 1), False),
            ((1, "\n" + lines[0], 1), False), ((3, lines[2] + "\nload a 1\nload b 2", 1), True), ((3, lines[2] + "\nload a 1\nload a 2", 1), False),
            ((1, "spread 20\n" + lines[0], 1), True), ((1, "spread 0\n" + lines[0], 1), False), ((2, ALONE, 1), False), ((1, ALONE + "\nmeter b", 1), False),
            ((3, lines[2] + "\nmeter c\n  range low load 1 unit 1", 1), None), ((2, lines[1].replace("low", "lo"), 1), None), ((3, "\n", 1), False),
        ):
            text = "\n".join([offer[1] if k + 1 == offer[0] else line for k, line in enumerate(lines)])
            wanted = counts
            if counts is None:
                self.assertIsNone(wrong_line(text))
                wanted = False
            hunting = (offer, (3, lines[2].replace("down 2", "down 4"), 9))
            told = cheapest(bench, tuple(sorted(hunting)), (("never", (("low",), ()), (("high",), ())),))
            self.assert_same((offer,) in [reason[0] for reason in told[-1]], False if counts is None else wanted)
            self.assert_same(cheapest(bench, (offer,), hopes)[:3], ("choice", 0, ()))

    def test_lines_left_out(self):
        bench = Bench(LIT)
        hopes = (("calm", bench.first),)
        for choice in (((9, "", 1),), ((10, "", 1),), ((9, "", 1), (10, "", 2))):
            if len(LIT.split("\n")) >= choice[-1][0]:
                told = cheapest(bench, choice, (("never", bench.first, (("lo", "f"), ())),))
                self.assert_same([reason[0] for reason in told[-1]], own_choices(choice))
                self.assert_same(shows_cheapest(bench, choice, hopes, cheapest(bench, choice, hopes)), True)
        # A loads line that is replaced by "" takes its load from the settings.
        hopes = (("calm", (bench.first[0], ("z",))), ("never", (bench.first[0], ("z",)), (("lo", "f"), ("z",))))
        at = LIT.split("\n").index("load z 3") + 1
        told = cheapest(bench, ((at, "", 1),), hopes)
        self.assert_same([told[0], [reason[0] for reason in told[-1]]], ["none", [()]])

    def test_all_lines_left_out(self):
        bench = Bench("meter m\n  range a load 1 unit 1")
        offers = ((1, "", 1), (2, "", 1))
        told = cheapest(bench, offers, (("never", bench.first, bench.first),))
        self.assert_same([told[0], [reason[0] for reason in told[1]]], ["none", [()]])


class Refused(Case):

    def assert_no_offers(self, bench, wrong):
        for hopes in ((CALM,), None, ()):
            self.assert_refused(BadOffers, wrong, cheapest, bench, wrong, hopes)
            self.assert_refused(BadOffers, wrong, shows_cheapest, bench, wrong, hopes, None)
        self.assert_refused(BadOffers, wrong, cheapest, hopes=None, offers=wrong, bench=bench)

    def test_offers(self):
        pair = Bench(PAIR)
        a, b = OFFERS
        for wrong in any_values() + [
            (), list(OFFERS), OFFERS[::-1], OFFERS + (a,), (a, a), (a, b, b), a, (a[:2],), (a + (1,),), (list(a),), (a, list(b)), ((a, b),), {a: b},
            tuple((6, f"x{k}", 1) for k in range(5)), (a, None), (None, b), (a, ()), ((), b), (a, "abc"), "abc",
        ]:
            self.assert_no_offers(pair, wrong)

    def test_offers_at_their_bounds(self):
        pair = Bench(PAIR)
        hopes = (CALM,)
        for right in (((1, "x", 1),), ((6, "x", 9),), ((1, "", 9),), ((1, "x", 1), (1, "x", 2)), ((1, "x", 1), (1, "y", 1)), ((1, "x", 9), (2, "x", 1)),
                      tuple((k, "x", 9) for k in (1, 2, 3, 6)), ((1, "", 1), (1, "x", 1), (1, "x", 9), (6, "", 1))):
            self.assert_same(cheapest(pair, right, hopes)[0], "none")
        for line in (0, -1, 7, 8, 999999999, True, False, None, "1", (1,), [1]):
            self.assert_no_offers(pair, ((line, "x", 1),))
            self.assert_no_offers(pair, ((1, "x", 1), (line, "x", 1)))
        for text in (None, 0, True, ("x",), ["x"], (), {}, WEAK, pair):
            self.assert_no_offers(pair, ((1, text, 1),))
            self.assert_no_offers(pair, ((1, "x", 1), (2, text, 1)))
        for price in (0, -1, 10, 999999999, True, False, None, "1", (1,), [1]):
            self.assert_no_offers(pair, ((1, "x", price),))
            self.assert_no_offers(pair, ((1, "x", 1), (2, "x", price)))
        for wrong in (((2, "x", 1), (1, "x", 1)), ((1, "y", 1), (1, "x", 1)), ((1, "x", 2), (1, "x", 1)), ((1, "x", 1), (1, "x", 1)),
                      ((1, "x", 1), (2, "x", 1), (2, "x", 1)), tuple((k, "x", 1) for k in range(1, 6))):
            self.assert_no_offers(pair, wrong)

    def test_lines_of_the_bench(self):
        bench = Bench("meter m\n  range a load 1 unit 1")
        self.assert_same(cheapest(bench, ((2, "", 1),), (("calm", bench.first),))[0], "choice")
        self.assert_no_offers(bench, ((3, "", 1),))

    def assert_no_hopes(self, bench, wrong):
        self.assert_refused(BadHopes, wrong, cheapest, bench, OFFERS, wrong)
        self.assert_refused(BadHopes, wrong, shows_cheapest, bench, OFFERS, wrong, None)
        self.assert_refused(BadHopes, wrong, shows_cheapest, bench=bench, hopes=wrong, offers=OFFERS, value=("none", ()))
        self.assert_refused(BadOffers, (), cheapest, bench, (), wrong)

    def test_hopes(self):
        pair = Bench(PAIR)
        here, goal = pair.first, (("high", "rough"), ())
        right = (("calm", here), ("one", here), ("keeps", here), ("never", here, goal), ("never", here, here))
        for some in combinations(right, 3):
            self.assertIn(cheapest(pair, OFFERS, some)[0], ("choice", "none"))
        for wrong in any_values() + [
            (), right[:4], list(right[:1]), (right[0], right[0]), (right[3], right[1], right[3]), right[0], [right[0]], (list(right[0]),),
            (("calm",),), (("calm", here, here),), (("never", here),), (("never", here, goal, goal),), (("hunts", here),), (("one", here, goal),),
            (("two", here),), (("Calm", here),), (("", here),), ((None, here),), ((True, here),), ((("calm",), here),), ((["calm"], here),), ((),),
            (None,), ("calm",), ("calm", here), ((here, "calm"),), (right[0], None), (right[0], ()), {right[0]: 1}, (("keeps", here, here),),
            (("never", (here, goal)),), (("comes", here, goal),), (("alone", here),),
        ]:
            self.assert_no_hopes(pair, wrong)

    def test_settings_of_hopes(self):
        for text in (PAIR, LIT):
            bench = Bench(text)
            here = bench.first
            for wrong in near_settings(bench):
                for hopes in ((("calm", wrong),), (("one", here), ("keeps", wrong)), (("never", wrong, here),), (("never", here, wrong),)):
                    self.assert_refused(BadHopes, hopes, cheapest, bench, OFFERS, hopes)
                    self.assert_refused(BadHopes, hopes, shows_cheapest, bench, OFFERS, hopes, None)

    def test_settings_that_only_the_changed_bench_has(self):
        bench = Bench(ALONE)
        offers = ((3, ALONE.split("\n")[2] + "\nload lamp 1", 1),)
        hopes = (("calm", (("low",), ("lamp",))),)
        self.assert_refused(BadHopes, hopes, cheapest, bench, offers, hopes)

    def test_no_bench_is_made_of_the_offers_alone(self):
        self.assert_number(BadBench, 1, Bench, "x")


class Shows(Case):

    def told(self, seed, many):
        return [(bench, offers, hopes, cheapest(bench, offers, hopes)) for bench, offers, hopes in drawn(seed, many)]

    def assert_as_own(self, bench, offers, hopes, value):
        wanted = right_cheapest(bench, offers, hopes, value)
        with self.subTest(text=bench.text, offers=offers, hopes=hopes, value=value):
            self.assert_same(shows_cheapest(bench, offers, hopes, value), wanted)
        return wanted

    def test_reasons_by_another_hope(self):
        seen = 0
        functions = {"calm": calm, "one": alone, "keeps": keeps, "never": comes}
        for bench, offers, hopes, told in self.told(1303, 80):
            for k, (choice, at, _) in enumerate(told[-1]):
                for other, hope in enumerate(hopes):
                    some = own_bench(bench, choice)
                    reason = (choice, other, functions[hope[0]](some, *hope[1:]))
                    value = told[:-1] + (told[-1][:k] + (reason,) + told[-1][k + 1:],)
                    wanted = not own_truth(some, hope)
                    seen += wanted and other != at
                    self.assert_same(shows_cheapest(bench, offers, hopes, value), wanted)
                    # What is told of one hope is no reason by another one.
                    value = told[:-1] + (told[-1][:k] + ((choice, at, reason[2]),) + told[-1][k + 1:],)
                    self.assert_as_own(bench, offers, hopes, value)
        self.assertGreater(seen, 10)

    def test_reasons_out_twice_or_in_another_sequence(self):
        seen = 0
        for bench, offers, hopes, told in self.told(1305, 30):
            reasons = told[-1]
            for k in range(len(reasons)):
                seen += 1
                for wrong in (reasons[:k] + reasons[k + 1:], reasons[:k] + reasons[k:k + 1] + reasons[k:], reasons[k:] + reasons[:k] if k else list(reasons),
                              reasons[:k] + (reasons[k][:2],) + reasons[k + 1:], reasons[:k] + (reasons[k] + ((),),) + reasons[k + 1:],
                              reasons[:k] + (list(reasons[k]),) + reasons[k + 1:], reasons[:k] + (None,) + reasons[k + 1:]):
                    self.assert_same(shows_cheapest(bench, offers, hopes, told[:-1] + (wrong,)), False)
                choice, at, why = reasons[k]
                for wrong in ((choice, str(at), why), (choice, at == 1, why), (choice, at + len(hopes), why), (choice, at - len(hopes), why), (choice, None, why),
                              (list(choice), at, why), (choice + choice[:1] if choice else ((1, "", 1),), at, why), (choice, at, None), (choice, at, list(why)),
                              (choice, at, ()), (choice, at, why[:1]), (None, at, why), (tuple(list(one) for one in choice), at, why)):
                    self.assert_as_own(bench, offers, hopes, told[:-1] + (reasons[:k] + (wrong,) + reasons[k + 1:],))
        self.assertGreater(seen, 30)

    def test_other_choices(self):
        for bench, offers, hopes, told in self.told(1307, 60):
            if told[0] == "choice":
                for choice in own_choices(offers):
                    if choice != told[2]:
                        price = sum(price for _, _, price in choice)
                        self.assert_same(shows_cheapest(bench, offers, hopes, ("choice", price, choice) + told[3:]), False)
                        self.assert_same(shows_cheapest(bench, offers, hopes, told[:2] + (choice,) + told[3:]), False)
                for wrong in (told[1] + 1, told[1] - 1, told[1] == 1, str(told[1]), None, (told[1],), told[1] + 10, 0 if told[1] else 1):
                    self.assert_same(shows_cheapest(bench, offers, hopes, told[:1] + (wrong,) + told[2:]), False)
                for wrong in (list(told[2]), None, tuple(list(one) for one in told[2]) + ([],), told[2] + ((1, "x", 1),), (told[2],), {}):
                    self.assert_same(shows_cheapest(bench, offers, hopes, told[:2] + (wrong,) + told[3:]), False)

    def test_true_is_not_1(self):
        pair = Bench(PAIR)
        hopes = (CALM,)
        told = cheapest(pair, OFFERS, hopes)
        (line, text, price), = told[2]
        self.assert_same((told[1], price), (1, 1))
        for wrong in (told[:1] + (True,) + told[2:], told[:2] + (((line, text, True),),) + told[3:]):
            self.assert_same(shows_cheapest(pair, OFFERS, hopes, wrong), False)
        (choice, at, why), = told[4]
        self.assert_same([at, shows_cheapest(pair, OFFERS, hopes, told[:4] + (((choice, False, why),),))], [0, False])
        # Lines, too, where there is an offer for line 1.
        offers = ((1, "spread 4\nmeter wide", 1),)
        told = cheapest(pair, offers, hopes)
        self.assert_same([told[2], shows_cheapest(pair, offers, hopes, told)], [offers, True])
        self.assert_same(shows_cheapest(pair, offers, hopes, told[:2] + (((True,) + offers[0][1:],),) + told[3:]), False)

    def test_dearer_choices_by_which_the_hopes_come_true(self):
        pair = Bench(PAIR)
        hopes = (CALM,)
        changed = Bench(PAIR.replace("down 2", "down 1"))
        self.assert_same(calm(changed, pair.first)[0], "calm")
        reasons = (((), 0, calm(pair, pair.first)),)
        for more in ((), ((OFFERS[1:], 0, calm(pair, pair.first)),)):
            value = ("choice", 2, OFFERS[:1], (calm(changed, pair.first),), reasons + more)
            self.assert_same(shows_cheapest(pair, OFFERS, hopes, value), False)
        self.assert_same(shows_cheapest(pair, OFFERS[:1], hopes, ("choice", 2, OFFERS[:1], (calm(changed, pair.first),), reasons)), True)

    def test_what_is_told_of_choices_that_are_not_the_first_true_one(self):
        # Their evidence and the reasons ahead are what the functions tell; but only one choice is right.
        seen = {}
        functions = {"calm": calm, "one": alone, "keeps": keeps, "never": comes}
        for bench, offers, hopes, told in self.told(1315, 60):
            reasons = ()
            for some, choice, truths in own_counting(bench, offers, hopes):
                evidence = tuple(functions[hope[0]](some, *hope[1:]) for hope in hopes)
                value = ("choice", sum(price for _, _, price in choice), choice, evidence, reasons)
                wanted = told[0] == "choice" and choice == told[2]
                self.assert_same(shows_cheapest(bench, offers, hopes, value), wanted)
                seen[wanted, all(truths)] = seen.get((wanted, all(truths)), 0) + 1
                at = truths.index(False) if not all(truths) else 0
                reasons = reasons + ((choice, at, evidence[at]),)
            # All choices with what is told of them, as if none would do.
            self.assert_same(shows_cheapest(bench, offers, hopes, ("none", reasons)), told[0] == "none")
            for value in (("choice", reasons, None, None, None), ("choice", reasons, "none", (), ()), ("none", reasons, (), (), ()), ("choice", reasons)):
                self.assert_same(shows_cheapest(bench, offers, hopes, value), False)
        self.assertGreater(min(seen[True, True], seen[False, True], seen[False, False]), 10)

    def test_evidence(self):
        for bench, offers, hopes, told in self.told(1309, 60):
            if told[0] == "choice":
                evidence = told[3]
                for wrong in (evidence[:-1], evidence + evidence[-1:], list(evidence), (), None, tuple(list(one) for one in evidence), (None,) * len(hopes)):
                    self.assert_same(shows_cheapest(bench, offers, hopes, told[:3] + (wrong,) + told[4:]), False)
                if len(hopes) > 1:
                    self.assert_as_own(bench, offers, hopes, told[:3] + (evidence[::-1],) + told[4:])
                for k, reason in enumerate(told[4]):
                    self.assert_as_own(bench, offers, hopes, told[:3] + ((reason[2],) + evidence[1:],) + told[4:])
                word, rows = evidence[0]
                for rows in (rows[::-1], rows[1:], list(rows), rows + rows[:1]):
                    self.assert_as_own(bench, offers, hopes, told[:3] + (((word, rows),) + evidence[1:],) + told[4:])

    def test_other_words_and_values(self):
        pair = Bench(PAIR)
        none = ((6, "  range rough load 0 unit 1 down 9/4", 1),)
        for offers in (OFFERS, none):
            told = cheapest(pair, offers, (CALM,))
            for wrong in any_values() + [list(told), told[1:], told[:-1], told + ((),), told[::-1], (told,), ("none", told[-1]) + told[2:],
                                         ("choice",) + told[1:][::-1], ("none", ()), ("none", [])]:
                if not is_same(wrong, told):
                    self.assert_same(shows_cheapest(pair, offers, (CALM,), wrong), False)
                self.assert_same(shows_cheapest(pair, offers, (CALM,), told[:-1] + (wrong,)), False)
            for word in ("choice", "none", "None", "", None, True, ("none",)):
                if word != told[0]:
                    self.assert_same(shows_cheapest(pair, offers, (CALM,), (word,) + told[1:]), False)
        self.assert_same(shows_cheapest(pair, OFFERS, (CALM,), ("none", cheapest(pair, OFFERS, (CALM,))[4])), False)

    def test_values_of_other_offers_and_hopes(self):
        rows = self.told(1311, 24)
        for bench, offers, hopes, told in rows:
            for value in (told, rows[0][3], rows[-1][3]):
                self.assert_as_own(bench, offers, hopes, value)
                self.assert_as_own(bench, offers[:1], hopes, value)
                self.assert_as_own(bench, offers, hopes[:1], value)

    def test_bent_values(self):
        rng = random.Random(1313)
        seen = {}
        for bench, offers, hopes, told in self.told(1313, 60):
            points = list(own_points(bench).values())
            others = tuple(source_of(rng.choice(rng.choice(points))) for _ in range(3)) + bench.settings[:2] + offers[:1] + (0, 1, 2)
            for value in bent(rng, told, others, 14):
                wanted = self.assert_as_own(bench, offers, hopes, value)
                seen[told[0], wanted] = seen.get((told[0], wanted), 0) + 1
        self.assertGreater(min(seen[word, is_right] for word in ("choice", "none") for is_right in (True, False)), 2)


if __name__ == "__main__":
    unittest.main()
