"""Section 14: a table, deed by deed, with undo and trials."""

import random
import unittest
from fractions import Fraction

from rangehunt import errors
from rangehunt.benches import Bench
from rangehunt.errors import (
    BadSource, BadStep, Hunting, NoLoad, NoMeter, NothingToRedo, NothingToUndo, NoTrial, NotNow,
)
from rangehunt.logs import extent
from rangehunt.sources import Source
from rangehunt.stepping import shown, steps, turned
from rangehunt.tables import Table
from tests.drawn import drawn_benches, source_of
from tests.own_tables import OwnTable, Wrong
from tests.tools import FULL, LIT, PAIR, Case, any_values, nested
from tests.world import own_points

WEAK = Source((90, 1), (10, 1))
FIRM = Source((10, 1), (0, 1))
NONE = Source((0, 1), (0, 1))
ALONE = PAIR[:PAIR.index("\nmeter side")]
LAMP = ALONE + "\nload lamp 3"


def told(table):
    """All that a table tells by itself."""
    return (table.bench.text, table.source, table.setting, table.figures, table.done, table.log, table.known())


def state(table):
    """All that a table tells, also of what can be undone and done again."""
    some = table.copy()
    found = [told(some)]
    while some.done:
        some.undo()
        found.append(told(some))
    some = table.copy()
    while True:
        try:
            some.redo()
        except NothingToRedo:
            return found
        found.append(told(some))


class TableCase(Case):

    def assert_state(self, table, wanted):
        found = state(table)
        self.assertEqual(found, wanted)
        self.assert_same([row[2:6] for row in found], [row[2:6] for row in wanted])

    def assert_unchanged(self, table, error, value, call, /, *args, **more):
        """The call is refused with this value, and changes nothing."""
        ahead = state(table)
        self.assert_same(self.raised(error, call, *args, **more).value, value)
        self.assert_state(table, ahead)


class Examples(TableCase):

    def test_the_example(self):
        pair = Bench(PAIR)
        log = ((pair.first, (29, 29)), ((("low", "rough"), ()), (42, 4)))
        table = Table(pair, WEAK)
        self.assertIsNone(table.step("side", "up"))
        found = [table.setting, table.figures, table.log == log, table.known()[2:], table.done]
        self.assert_same(found, [(("low", "rough"), ()), (42, 4), True, (((2, 1), False), (14, 1)), 1])
        self.assertIsNone(table.stand(Source((10, 1), (0, 1))))
        found = [table.settle(), table.tried(Table.undo), table.figures, len(table.log)]
        self.assert_same(found, [(("wide", "up"),), None, (10, 10), 2])

    def test_at_first(self):
        bench = Bench(LIT)
        table = Table(source=WEAK, bench=bench)
        self.assertIs(type(table), Table)
        self.assertEqual((table.bench, table.source), (bench, WEAK))
        self.assert_same([table.setting, table.done], [bench.first, 0])
        self.assert_same(table.figures, shown(bench, bench.first, WEAK))
        self.assert_same(table.log, ((bench.first, shown(bench, bench.first, WEAK)),))
        self.assert_same(table.known(), extent(bench, table.log))

    def test_arguments_by_name(self):
        table = Table(bench=Bench(LAMP), source=FIRM)
        self.assertIsNone(table.step(way="up", meter="wide"))
        self.assertIsNone(table.hand(load="lamp"))
        self.assertIsNone(table.stand(source=NONE))
        self.assert_same([table.setting, table.done, table.settle()], [(("high",), ("lamp",)), 3, (("wide", "down"),)])
        self.assert_same(table.tried(look=lambda held: held.done), 4)
        self.assert_same(table.tried(keep=True, look=lambda held: held.undo()), None)
        self.assert_same(table.done, 3)


class Deeds(TableCase):

    def test_steps(self):
        table = Table(Bench(LAMP), Source((100, 1), (1, 1)))
        table.step("wide", "up")
        self.assert_same([table.setting, table.figures, table.done], [(("high",), ()), (20,), 1])
        self.assert_unchanged(table, BadStep, ("wide", "up"), table.step, "wide", "up")
        self.assert_unchanged(table, NotNow, ("wide", "down"), table.step, "wide", "down")
        table.stand(NONE)
        table.step("wide", "down")
        self.assert_same([table.setting, table.figures, table.done, len(table.log)], [(("low",), ()), (0,), 3, 2])
        self.assert_unchanged(table, BadStep, ("wide", "down"), table.step, "wide", "down")
        self.assert_unchanged(table, NotNow, ("wide", "up"), table.step, "wide", "up")

    def test_steps_that_are_refused(self):
        table = Table(Bench(PAIR), WEAK)
        table.step("side", "up")
        table.undo()
        for wrong in any_values() + ["low", "meter", "wid", "wide ", ("wide",), ["wide"]]:
            if not (type(wrong) is str and wrong == "wide"):
                for way in ("up", "down", None, []):
                    self.assert_unchanged(table, NoMeter, wrong, table.step, wrong, way)
        for wrong in any_values() + ["Up", "up ", "", "u", "dow", ("up",), ["up"], 1, True]:
            self.assert_unchanged(table, BadStep, ("wide", wrong), table.step, "wide", wrong)
            self.assert_unchanged(table, BadStep, ("side", wrong), table.step, way=wrong, meter="side")
        value = nested(30)
        self.assertIs(self.raised(NoMeter, table.step, value, "up").value, value)
        self.assertIs(self.raised(BadStep, table.step, "wide", value).value[1], value)
        self.assert_unchanged(table, NotNow, ("wide", "up"), table.step, "wide", "up")
        self.assert_unchanged(table, BadStep, ("wide", "down"), table.step, "wide", "down")
        table.redo()
        self.assert_same(table.done, 1)

    def test_hands(self):
        bench = Bench(LIT)
        table = Table(bench, WEAK)
        wanted = [table.setting]
        for load in ("z", "b", "z", "z", "b"):
            wanted.append(turned(bench, wanted[-1], load))
            self.assertIsNone(table.hand(load))
            self.assert_same([table.setting, table.done, len(table.log)], [wanted[-1], len(wanted) - 1, len(wanted)])
        self.assert_same([setting for setting, _ in table.log], wanted)
        for wrong in any_values() + ["ba", "load", "z ", ("z",), ["z"], None]:
            self.assert_unchanged(table, NoLoad, wrong, table.hand, wrong)
            self.assert_unchanged(table, NoLoad, wrong, table.hand, load=wrong)
        self.assert_unchanged(Table(Bench(PAIR), WEAK), NoLoad, "z", Table(Bench(PAIR), WEAK).hand, "z")

    def test_settle(self):
        table = Table(Bench(PAIR), Source((9, 1), (0, 1)))
        self.assert_same(table.settle(), (("wide", "up"), ("side", "up")))
        self.assert_same([table.setting, table.done, len(table.log)], [(("high", "rough"), ()), 1, 3])
        self.assert_same([setting for setting, _ in table.log], [(("low", "fine"), ()), (("high", "fine"), ()), (("high", "rough"), ())])
        # It is one deed, also without any step.
        self.assert_same([table.settle(), table.done, len(table.log)], [(), 2, 3])
        table.undo()
        table.undo()
        self.assert_same([table.setting, table.done], [(("low", "fine"), ()), 0])

    def test_the_first_of_the_steps(self):
        # Either one may go up; the first one in the text does, and then rests.
        text = "\n".join(f"meter {name}\n  range low load 0 unit 1 up 4\n  range high load 2 unit 1 down 1/2" for name in ("b", "a"))
        table = Table(Bench(text), Source((4, 1), (1, 1)))
        self.assert_same(steps(table.bench, table.setting, table.source), (("b", "up"), ("a", "up")))
        self.assert_same([table.settle(), table.setting], [(("b", "up"),), (("high", "low"), ())])

    def test_settle_hunts(self):
        table = Table(Bench(PAIR), WEAK)
        row = (("side", "up"), ("wide", "up"), ("side", "down"), ("wide", "down"))
        self.assert_unchanged(table, Hunting, row, table.settle)
        # Behind each step of the ring the setting of now comes a second time.
        for k in range(1, 4):
            table.step(*row[k - 1])
            self.assert_unchanged(table, Hunting, row[k:] + row[:k], table.settle)
        # From another setting, with a load turned in between.
        bench = Bench(PAIR + "\nload lamp 99")
        table = Table(bench, WEAK)
        table.hand("lamp")
        table.stand(Source((9999, 1), (0, 1)))
        table.settle()
        table.stand(WEAK)
        table.hand("lamp")
        self.assert_same(table.setting, (("high", "rough"), ()))
        found = self.raised(Hunting, table.settle).value
        self.assert_same(found, (("side", "down"), ("wide", "down"), ("side", "up"), ("wide", "up")))

    def test_settle_into_a_ring(self):
        # The meter m goes up for good, and then n goes up and down for ever.
        text = ("meter m\n  range a load 0 unit 1 up 1\n  range b load 0 unit 1 down 0\n"
                "meter n\n  range low load 1 unit 1 up 4\n  range high load 9 unit 1 down 3")
        table = Table(Bench(text), Source((10, 1), (1, 1)))
        self.assert_unchanged(table, Hunting, (("m", "up"), ("n", "up"), ("n", "down")), table.settle)
        table.step("n", "up")
        self.assert_unchanged(table, Hunting, (("m", "up"), ("n", "down"), ("n", "up")), table.settle)
        table.step("m", "up")
        self.assert_unchanged(table, Hunting, (("n", "down"), ("n", "up")), table.settle)

    def test_stand(self):
        table = Table(Bench(LAMP), FIRM)
        table.step("wide", "up")
        table.hand("lamp")
        self.assert_same(len(table.log), 3)
        table.stand(WEAK)
        self.assertEqual(table.source, WEAK)
        self.assert_same([table.setting, table.done], [(("high",), ("lamp",)), 3])
        self.assert_same(table.log, (((("high",), ("lamp",)), (1,)),))
        # Also on an equal source the log begins anew.
        table.hand("lamp")
        table.stand(Source((90, 1), (10, 1)))
        self.assert_same([len(table.log), table.done, table.figures], [1, 5, (2,)])
        for wrong in any_values() + [((1, 1), (1, 1)), (WEAK,), [WEAK], "90 10", table]:
            if type(wrong) is not Source:
                self.assert_refused(BadSource, wrong, table.stand, wrong)
                self.assert_refused(BadSource, wrong, table.stand, source=wrong)
                self.assert_same([table.done, len(table.log)], [5, 1])

    def test_twelve_sights_at_most(self):
        table = Table(Bench(LAMP), Source((20, 1), (1, 1)))
        sights = [table.log[0]]
        for k in range(20):
            table.hand("lamp")
            sights.append((table.setting, table.figures))
            self.assert_same([table.log, table.done], [tuple(sights[-12:]), k + 1])
            self.assert_same(table.known(), extent(table.bench, table.log))
        for k in range(20, 0, -1):
            table.undo()
            self.assert_same([table.log, table.done], [tuple(sights[:k][-12:]), k - 1])

    def test_settle_adds_a_sight_for_each_step(self):
        table = Table(Bench(PAIR), Source((9, 1), (0, 1)))
        for k in range(4):
            table.stand(NONE)
            self.assert_same([table.settle() != (), len(table.log)], [k > 0, 1 if k == 0 else 3])
            table.stand(Source((9, 1), (0, 1)))
            self.assert_same([len(table.settle()), len(table.log)], [2, 3])

    def test_settle_over_the_twelfth_sight(self):
        bench = Bench(PAIR + "\nload lamp 0")
        table = Table(bench, Source((9, 1), (0, 1)))
        for _ in range(10):
            table.hand("lamp")
        table.settle()
        self.assert_same([len(table.log), [ranges for (ranges, _), _ in table.log[-3:]]],
                         [12, [("low", "fine"), ("high", "fine"), ("high", "rough")]])

    def test_known(self):
        table = Table(Bench(PAIR), WEAK)
        self.assert_same(table.known(), extent(table.bench, table.log))
        table.step("side", "up")
        self.assert_same(table.known(), (((21, 1), False), (1247, 10), ((2, 1), False), (14, 1)))
        table.stand(NONE)
        self.assert_same([table.known()[0], table.known()[2]], [((0, 1), True), ((0, 1), True)])


class UndoAndRedo(TableCase):

    def test_nothing(self):
        table = Table(Bench(LAMP), FIRM)
        self.assert_unchanged(table, NothingToUndo, None, table.undo)
        self.assert_unchanged(table, NothingToRedo, None, table.redo)
        table.hand("lamp")
        self.assert_unchanged(table, NothingToRedo, None, table.redo)
        self.assertIsNone(table.undo())
        self.assert_unchanged(table, NothingToUndo, None, table.undo)
        self.assertIsNone(table.redo())
        self.assert_unchanged(table, NothingToRedo, None, table.redo)

    def test_all_kinds_of_deeds(self):
        table = Table(Bench(LAMP), FIRM)
        found = [told(table)]
        for deed in (lambda: table.hand("lamp"), lambda: table.step("wide", "up"), lambda: table.stand(NONE), table.settle, table.settle,
                     lambda: table.stand(WEAK), lambda: table.hand("lamp"), lambda: table.stand(WEAK)):
            deed()
            found.append(told(table))
        for k in range(len(found) - 1, 0, -1):
            self.assertEqual(told(table), found[k])
            table.undo()
        self.assertEqual(told(table), found[0])
        for k in range(1, len(found)):
            table.redo()
            self.assertEqual(told(table), found[k])

    def test_a_new_deed_ends_redo(self):
        for deed in (lambda table: table.hand("lamp"), lambda table: table.step("wide", "up"), lambda table: table.stand(FIRM), lambda table: table.settle()):
            table = Table(Bench(LAMP), FIRM)
            table.hand("lamp")
            table.hand("lamp")
            table.undo()
            table.undo()
            deed(table)
            self.assert_unchanged(table, NothingToRedo, None, table.redo)
            self.assert_same(table.done, 1)

    def test_a_refused_deed_does_not(self):
        table = Table(Bench(PAIR + "\nload lamp 1"), WEAK)
        table.hand("lamp")
        table.hand("lamp")
        table.undo()
        table.undo()
        for error, call, args in (
            (NoMeter, table.step, ("nobody", "up")), (BadStep, table.step, ("wide", "down")), (NotNow, table.step, ("wide", "up")),
            (NoLoad, table.hand, ("nobody",)), (Hunting, table.settle, ()), (BadSource, table.stand, (None,)), (NoTrial, table.keep, ()),
            (NothingToUndo, table.undo, ()),
        ):
            ahead = state(table)
            self.raised(error, call, *args)
            self.assert_state(table, ahead)
        table.redo()
        table.redo()
        self.assert_same([table.done, table.setting[1]], [2, ()])

    def test_redo_behind_some_undone(self):
        table = Table(Bench(LAMP), FIRM)
        for load in ("lamp",) * 4:
            table.hand(load)
        for _ in range(3):
            table.undo()
        table.redo()
        self.assert_same([table.done, table.setting[1]], [2, ()])
        table.undo()
        table.undo()
        for done in (1, 2, 3, 4):
            table.redo()
            self.assert_same(table.done, done)


class Trials(TableCase):

    def begun(self):
        """A table with deeds that stand and some that were taken back."""
        table = Table(Bench(LAMP), FIRM)
        for _ in range(3):
            table.hand("lamp")
        table.step("wide", "up")
        table.undo()
        table.undo()
        return table

    def test_not_kept(self):
        table = self.begun()
        ahead = state(table)
        with table.trial() as held:
            self.assertTrue(held is table)
            held.stand(NONE)
            held.settle()
            held.undo()
            self.assert_same(held.done, 3)
        self.assert_state(table, ahead)
        with table.trial():
            while table.done:
                table.undo()
        self.assert_state(table, ahead)
        with table.trial():
            table.redo()
            table.redo()
        self.assert_state(table, ahead)
        with table.trial():
            pass
        self.assert_state(table, ahead)

    def test_kept(self):
        table = self.begun()
        with table.trial():
            self.assertIsNone(table.keep())
            table.stand(NONE)
        self.assert_same([table.done, table.source == NONE], [3, True])
        with table.trial():
            table.hand("lamp")
            table.undo()
            table.undo()
            table.keep()
        self.assert_same([table.done, table.source == FIRM], [2, True])
        ahead = state(table)
        with table.trial():
            table.keep()
            table.keep()
        self.assert_state(table, ahead)
        table.redo()
        self.assert_same(table.source == NONE, True)

    def test_no_block(self):
        table = self.begun()
        self.assert_unchanged(table, NoTrial, None, table.keep)
        table.trial()
        self.assert_unchanged(table, NoTrial, None, table.keep)
        with table.trial():
            table.keep()
        self.assert_unchanged(table, NoTrial, None, table.keep)
        with table.trial():
            with table.trial():
                pass
            with table.trial():
                table.keep()
        self.assert_unchanged(table, NoTrial, None, table.keep)
        with self.assertRaises(ZeroDivisionError), table.trial():
            1 // 0
        self.assert_unchanged(table, NoTrial, None, table.keep)

    def test_the_moment_of_the_block_is_that_of_its_beginning(self):
        table = self.begun()
        block = table.trial()
        table.stand(NONE)
        ahead = state(table)
        with block:
            table.settle()
            table.undo()
            table.undo()
        self.assert_state(table, ahead)

    def test_within_one_another(self):
        for is_inner, is_outer in ((False, False), (False, True), (True, False), (True, True)):
            for is_first in (True, False):
                table = self.begun()
                ahead = state(table)
                with table.trial() as outer:
                    if is_outer and is_first:
                        outer.keep()
                    table.stand(WEAK)
                    with table.trial() as inner:
                        self.assertTrue(inner is table)
                        if is_inner:
                            inner.keep()
                        table.stand(NONE)
                    self.assert_same([table.source == NONE, table.done], [is_inner, 4 if is_inner else 3])
                    if is_outer and not is_first:
                        outer.keep()
                if is_outer:
                    self.assert_same([table.source == NONE, table.done], [is_inner, 4 if is_inner else 3])
                else:
                    self.assert_state(table, ahead)

    def test_deeper_ones(self):
        table = self.begun()
        with table.trial():
            table.hand("lamp")
            with table.trial():
                table.hand("lamp")
                with table.trial():
                    table.hand("lamp")
                    table.keep()
                self.assert_same(table.done, 5)
                with table.trial():
                    table.undo()
                    table.undo()
                    table.undo()
                    table.undo()
                self.assert_same(table.done, 5)
                table.keep()
            self.assert_same(table.done, 5)
        self.assert_same(table.done, 2)

    def test_left_by_an_error(self):
        for error in (NotNow("x"), ZeroDivisionError(), KeyboardInterrupt(), NothingToUndo(None), StopIteration()):
            table = self.begun()
            ahead = state(table)
            with self.assertRaises(type(error)) as caught:
                with table.trial():
                    table.stand(NONE)
                    table.keep()
                    raise error
            self.assertTrue(caught.exception is error)
            self.assert_state(table, ahead)

    def test_an_error_that_does_not_leave_the_block(self):
        table = self.begun()
        with table.trial():
            try:
                table.step("nobody", "up")
            except NoMeter:
                table.hand("lamp")
            table.keep()
        self.assert_same(table.done, 3)

    def test_an_error_that_leaves_the_inner_block_alone(self):
        table = self.begun()
        with table.trial():
            table.stand(WEAK)
            try:
                with table.trial():
                    table.keep()
                    table.stand(NONE)
                    table.undo()
                    table.undo()
                    table.step("nobody", "up")
            except NoMeter:
                self.assert_same([table.done, table.source == WEAK], [3, True])
            table.keep()
        self.assert_same([table.done, table.source == WEAK], [3, True])

    def test_left_by_return_and_break(self):
        table = self.begun()
        ahead = state(table)

        def look(is_kept):
            with table.trial():
                table.stand(NONE)
                if is_kept:
                    table.keep()
                return table.done
        self.assert_same(look(False), 3)
        self.assert_state(table, ahead)
        for _ in range(3):
            with table.trial():
                table.stand(NONE)
                break
        self.assert_state(table, ahead)
        self.assert_same([look(True), table.done], [3, 3])

    def test_what_can_be_done_again_behind_a_block(self):
        table = self.begun()
        with table.trial():
            table.redo()
            table.hand("lamp")
            self.raised(NothingToRedo, table.redo)
        table.redo()
        table.redo()
        self.assert_same([table.done, table.setting], [4, (("high",), ("lamp",))])


class Tried(TableCase):

    def test_not_kept(self):
        table = Table(Bench(LAMP), FIRM)
        table.hand("lamp")
        table.undo()
        ahead = state(table)
        for keep in (False, 1, 0, None, "True", (True,), [True], "yes", 2, {1: 1}, Table):
            found = table.tried(lambda held: (held is table, held.settle(), held.done), keep=keep)
            self.assert_same(found, (True, (("wide", "up"),), 1))
            self.assert_state(table, ahead)
        self.assert_same(table.tried(lambda held: held.settle()), (("wide", "up"),))
        self.assert_state(table, ahead)

    def test_kept(self):
        table = Table(Bench(LAMP), FIRM)
        self.assert_same([table.tried(lambda held: held.settle(), keep=True), table.done], [(("wide", "up"),), 1])
        self.assert_same([table.tried(Table.undo, keep=True), table.done], [None, 0])
        self.assert_same([table.tried(Table.redo, keep=False), table.done], [None, 0])
        self.assert_same([table.tried(Table.redo, keep=True), table.done], [None, 1])

    def test_keep_only_by_name(self):
        table = Table(Bench(LAMP), FIRM)
        with self.assertRaises(TypeError):
            table.tried(Table.settle, True)
        self.assert_same(table.done, 0)

    def test_look_keeps(self):
        table = Table(Bench(LAMP), FIRM)

        def look(held):
            held.hand("lamp")
            held.keep()
            held.settle()
            return "found"
        for keep, done in ((False, 2), (True, 4), (None, 6)):
            self.assert_same([table.tried(look, keep=keep), table.done], ["found", done])

    def test_look_keeps_another_block(self):
        table = Table(Bench(LAMP), FIRM)

        def look(held):
            held.hand("lamp")
            with held.trial():
                held.hand("lamp")
                held.keep()
            return held.done
        self.assert_same([table.tried(look), table.done], [2, 0])
        self.assert_same([table.tried(look, keep=True), table.done], [2, 2])
        with table.trial():
            self.assert_same([table.tried(look, keep=True), table.done], [4, 4])
        self.assert_same(table.done, 2)

    def test_errors_pass_on(self):
        table = Table(Bench(LAMP), FIRM)
        table.hand("lamp")
        ahead = state(table)
        error = ZeroDivisionError("own")

        def look(held):
            held.keep()
            held.settle()
            held.undo()
            held.undo()
            raise error
        for keep in (True, False):
            with self.assertRaises(ZeroDivisionError) as caught:
                table.tried(look, keep=keep)
            self.assertTrue(caught.exception is error)
            self.assert_state(table, ahead)
            self.assert_same(self.raised(NoLoad, table.tried, lambda held: held.hand("nobody"), keep=keep).value, "nobody")
            self.assert_state(table, ahead)
        self.assert_unchanged(table, NoTrial, None, table.keep)

    def test_within_one_another(self):
        table = Table(Bench(LAMP), FIRM)
        found = table.tried(lambda held: (held.hand("lamp"), held.tried(lambda inner: (inner.settle(), inner.done), keep=True), held.done))
        self.assert_same([found, table.done], [(None, ((("wide", "up"),), 2), 2), 0])
        table.tried(lambda held: held.tried(lambda inner: inner.settle(), keep=True), keep=True)
        self.assert_same(table.done, 1)

    def test_what_look_returns(self):
        table = Table(Bench(LAMP), FIRM)
        for value in any_values():
            self.assertTrue(table.tried(lambda held, value=value: value) is value)
        self.assertTrue(table.tried(lambda held: held) is table)
        self.assert_same([table.tried(Table.keep), table.done], [None, 0])


class Copies(TableCase):

    def test_alike_in_all_things(self):
        table = Table(Bench(LAMP), FIRM)
        for _ in range(4):
            table.hand("lamp")
        table.stand(NONE)
        table.undo()
        table.undo()
        other = table.copy()
        self.assertIs(type(other), Table)
        self.assertFalse(other is table)
        self.assertEqual(other, table)
        self.assert_state(other, state(table))
        other.redo()
        other.redo()
        self.assertEqual(other.source, NONE)

    def test_independent(self):
        table = Table(Bench(LAMP), FIRM)
        table.hand("lamp")
        table.hand("lamp")
        table.undo()
        other = table.copy()
        ahead = state(table)
        other.redo()
        other.stand(NONE)
        other.undo()
        other.undo()
        other.undo()
        self.assert_state(table, ahead)
        ahead = state(other)
        table.redo()
        table.settle()
        table.stand(WEAK)
        self.assert_state(other, ahead)

    def test_made_in_a_block(self):
        table = Table(Bench(LAMP), FIRM)
        with table.trial():
            table.hand("lamp")
            other = table.copy()
            self.assert_unchanged(other, NoTrial, None, other.keep)
            with other.trial():
                other.hand("lamp")
                other.keep()
                self.assert_same([table.done, other.done], [1, 2])
            with other.trial():
                table.keep()
                other.hand("lamp")
                self.raised(NoTrial, other.copy().keep)
            self.assert_same(other.done, 2)
        self.assert_same([table.done, other.done], [1, 2])
        with table.trial():
            table.hand("lamp")
            other = table.copy()
        self.assert_same([table.done, other.done], [1, 2])
        with self.assertRaises(ZeroDivisionError), table.trial():
            other = table.copy()
            other.settle()
            1 // 0
        self.assert_same([table.done, other.done], [1, 2])

    def test_a_block_of_the_one_is_none_of_the_other(self):
        table = Table(Bench(LAMP), FIRM)
        other = table.copy()
        with table.trial(), other.trial():
            table.hand("lamp")
            other.hand("lamp")
            other.keep()
        self.assert_same([table.done, other.done], [0, 1])


class Equality(TableCase):

    def test_by_bench_source_and_setting(self):
        table = Table(Bench(LAMP), FIRM)
        self.assertEqual(table, Table(Bench(LAMP), Source((10, 1), (0, 1))))
        self.assertNotEqual(table, Table(Bench(LAMP), WEAK))
        self.assertNotEqual(table, Table(Bench(ALONE), FIRM))
        self.assertNotEqual(table, Table(Bench(LAMP.replace("lamp 3", "lamp 2")), FIRM))
        other = Table(Bench(LAMP), FIRM)
        other.hand("lamp")
        self.assertNotEqual(table, other)
        self.assertIs(table == other, False)
        # Other deeds, another log, and other things to be done again do not matter.
        other.hand("lamp")
        self.assertEqual(table, other)
        self.assertIs(table == other, True)
        other.stand(WEAK)
        self.assertNotEqual(table, other)
        other.stand(FIRM)
        self.assertEqual(other, table)
        other.undo()
        other.redo()
        with other.trial():
            self.assertEqual(other, table)

    def test_nothing_else(self):
        table = Table(Bench(LAMP), FIRM)
        for value in any_values() + [(table.bench, table.source, table.setting), table.bench, table.source, table.setting, [table], (table,)]:
            self.assertIs(table == value, False)
            self.assertIs(value == table, False)
            self.assertIs(table != value, True)
        self.assertIn(table, [table.copy()])


class AnyDeeds(TableCase):
    """Drawn rows of all that can be done, against an own account."""

    def drawn_deed(self, rng, own):
        bench = own.bench
        source, setting = own.after(own.deeds)[:2]
        points = list(own_points(bench).values())
        word = rng.choice(("step", "step", "step", "hand", "settle", "source"))
        if word == "step":
            possible = steps(bench, setting, source)
            if possible and rng.randrange(4):
                return ("step", *rng.choice(possible))
            return ("step", rng.choice(bench.meters + ("nobody", None)), rng.choice(("up", "down", "up", "down", "left", None)))
        if word == "hand":
            return ("hand", rng.choice(bench.loads + ("nobody",)))
        if word == "source":
            return ("source", source_of(rng.choice(rng.choice(points))) if rng.randrange(3) else Source((rng.randrange(99), 1), (7, 2)))
        return ("settle",)

    def do(self, table, deed):
        calls = {"step": table.step, "hand": table.hand, "settle": table.settle, "source": table.stand}
        return calls[deed[0]](*deed[1:])

    def assert_alike(self, table, own):
        source, setting, figures, done, log = own.told()
        self.assertEqual(table.source, source)
        self.assert_same([table.setting, table.figures, table.done, table.log], [setting, figures, done, log])

    def assert_both(self, own, own_call, call):
        """Both do the same, or are refused with the same error and value."""
        try:
            wanted = own_call()
        except Wrong as wrong:
            name, value = wrong.args
            self.assert_same(self.raised(getattr(errors, name), call).value, value)
            return name
        self.assert_same(call(), wanted)
        return "done"

    def play(self, rng, table, own, many, seen):
        for _ in range(many):
            kind = rng.randrange(12)
            if kind < 6:
                deed = self.drawn_deed(rng, own)
                found = self.assert_both(own, lambda: own.do(deed), lambda: self.do(table, deed))
            elif kind < 8:
                found = self.assert_both(own, own.undo, table.undo)
            elif kind < 10:
                found = self.assert_both(own, own.redo, table.redo)
            elif kind == 10:
                found = self.assert_both(own, own.keep, table.keep)
            else:
                found = "block"
                if len(own.blocks) < 3:
                    self.play_block(rng, table, own, seen)
            seen[found] = seen.get(found, 0) + 1
            self.assert_alike(table, own)

    def play_block(self, rng, table, own, seen):
        is_error = rng.randrange(3) == 0
        own.enter()
        try:
            with table.trial() as held:
                self.assertTrue(held is table)
                self.play(rng, table, own, rng.randrange(8), seen)
                if is_error:
                    raise LookupError
        except LookupError:
            self.assertTrue(is_error)
        own.leave(is_error)

    def test_drawn_deeds(self):
        rng = random.Random(1401)
        seen = {}
        benches = drawn_benches(1401, 25, hands=1) + drawn_benches(1402, 15) + [Bench(PAIR), Bench(LIT), Bench(LAMP), Bench(FULL)]
        for bench in benches:
            source = source_of((Fraction(rng.randrange(60)), Fraction(rng.randrange(9), 2)))
            table, own = Table(bench, source), OwnTable(bench, source)
            self.assert_alike(table, own)
            self.play(rng, table, own, 60, seen)
        for name in ("done", "NoMeter", "BadStep", "NotNow", "NoLoad", "Hunting", "NothingToUndo", "NothingToRedo", "NoTrial", "block"):
            self.assertGreater(seen.get(name, 0), 5, name)


if __name__ == "__main__":
    unittest.main()
