"""Section 4: sources."""

import operator
import unittest
from fractions import Fraction

from rangehunt.benches import Bench
from rangehunt.errors import BadMany, BadRatio, Short
from rangehunt.sources import Source
from tests.tools import PAIR, RATIOS, Case, any_values, fraction, no_ratios, pair_of

SMALL = [(0, 1), (1, 1), (1, 2), (3, 2), (2, 1), (5, 1)]


def sources():
    return [Source(volts, ohms) for volts in SMALL for ohms in SMALL]


def parts(source):
    return fraction(source.volts), fraction(source.ohms)


class Making(Case):

    def test_the_example(self):
        weak = Source((90, 1), (10, 1))
        found = [weak.at((2, 1)), weak.under((1, 2)).ohms, (weak & weak).ohms, (2 * weak).volts]
        self.assert_same(found, [(30, 7), (5, 3), (5, 1), (180, 1)])
        self.assert_same([weak + weak >= weak, weak >= Source((80, 1), (1, 1))], [True, False])

    def test_volts_and_ohms(self):
        for volts in RATIOS:
            for ohms in RATIOS:
                self.assert_source(Source(volts, ohms), volts, ohms)

    def test_arguments_by_name(self):
        self.assert_source(Source(ohms=(1, 2), volts=(3, 1)), (3, 1), (1, 2))

    def test_no_ratios(self):
        for value in no_ratios():
            with self.subTest(value=value):
                self.assert_refused(BadRatio, value, Source, value, (1, 1))
                self.assert_refused(BadRatio, value, Source, (1, 1), value)
                self.assert_refused(BadRatio, value, Source, ohms=value, volts=(0, 1))

    def test_volts_are_refused_ahead_of_ohms(self):
        for value in no_ratios():
            for other in ([1, 2], (2, 4), None, True):
                self.assert_refused(BadRatio, value, Source, value, other)


class Loading(Case):

    def test_at(self):
        for source in sources():
            volts, ohms = parts(source)
            for load in SMALL + [(999999999, 1), (1, 999999999)]:
                self.assert_same(source.at(load), pair_of(volts / (1 + ohms * fraction(load))))
        self.assert_same(Source((7, 1), (0, 1)).at((9, 1)), (7, 1))
        self.assert_same(Source((0, 1), (7, 1)).at((9, 1)), (0, 1))
        self.assert_same(Source((7, 2), (3, 1)).at(load=(2, 1)), (1, 2))

    def test_under(self):
        for source in sources():
            volts, ohms = parts(source)
            for load in SMALL:
                by = 1 + ohms * fraction(load)
                self.assert_source(source.under(load), pair_of(volts / by), pair_of(ohms / by))
        self.assert_source(Source((6, 1), (1, 1)).under(load=(1, 2)), (4, 1), (2, 3))

    def test_under_reads_with_further_loads_what_the_source_reads_beside_both(self):
        for source in sources():
            for load in SMALL:
                for further in SMALL:
                    both = pair_of(fraction(load) + fraction(further))
                    self.assert_same(source.under(load).at(further), source.at(both))

    def test_no_ratios(self):
        for source in (Source((90, 1), (10, 1)), Source((0, 1), (0, 1))):
            for value in no_ratios():
                with self.subTest(value=value):
                    self.assert_refused(BadRatio, value, source.at, value)
                    self.assert_refused(BadRatio, value, source.at, load=value)
                    self.assert_refused(BadRatio, value, source.under, value)
                    self.assert_refused(BadRatio, value, source.under, load=value)
            self.assert_source(source, source.volts, source.ohms)


class Joining(Case):

    def test_one_behind_the_other(self):
        for one in sources():
            for other in sources():
                volts, ohms = parts(one)
                more, inner = parts(other)
                self.assert_source(one + other, pair_of(volts + more), pair_of(ohms + inner))
        one = Source((1, 3), (1, 6))
        self.assert_source(one + one, (2, 3), (1, 3))

    def test_side_by_side(self):
        for one in sources():
            for other in sources():
                volts, ohms = parts(one)
                more, inner = parts(other)
                if ohms or inner:
                    joined = pair_of((volts * inner + more * ohms) / (ohms + inner))
                    self.assert_source(one & other, joined, pair_of(ohms * inner / (ohms + inner)))
                else:
                    self.assert_refused(Short, other, operator.and_, one, other)

    def test_side_by_side_with_a_firm_one(self):
        firm, weak = Source((5, 1), (0, 1)), Source((90, 1), (10, 1))
        self.assert_source(firm & weak, (5, 1), (0, 1))
        self.assert_source(weak & firm, (5, 1), (0, 1))

    def test_short_has_the_right_operand(self):
        one, other = Source((5, 1), (0, 1)), Source((5, 1), (0, 1))
        self.assert_refused(Short, other, operator.and_, one, other)
        self.assert_refused(Short, one, operator.and_, other, one)
        self.assert_refused(Short, one, operator.and_, one, one)

    def test_anything_but_a_source(self):
        for source in (Source((90, 1), (10, 1)), Source((5, 1), (0, 1))):
            for value in any_values():
                if not isinstance(value, Source):
                    with self.subTest(value=value):
                        for sign in (operator.add, operator.and_):
                            self.raised(TypeError, sign, source, value)
                            self.raised(TypeError, sign, value, source)

    def test_the_operands_stay_as_they_were(self):
        one, other = Source((3, 2), (5, 1)), Source((1, 4), (0, 1))
        for use in (operator.add, operator.and_, operator.ge, operator.le, operator.eq):
            use(one, other)
            self.assert_source(one, (3, 2), (5, 1))
            self.assert_source(other, (1, 4), (0, 1))
        for made in (one * 3, 3 * one, one * 1, one.under((1, 1)), one.under((0, 1))):
            self.assertIsNot(made, other)
            self.assert_source(one, (3, 2), (5, 1))
        self.raised(Short, operator.and_, other, other)
        self.raised(BadMany, operator.mul, other, -1)
        self.raised(TypeError, operator.add, other, 1)
        self.assert_source(other, (1, 4), (0, 1))


class Times(Case):

    def test_many_times(self):
        for source in sources():
            for many in (0, 1, 2, 3, 10, 999999999):
                volts = pair_of(many * fraction(source.volts))
                self.assert_source(source * many, volts, source.ohms)
                self.assert_source(many * source, volts, source.ohms)

    def test_many_is_an_integer_from_0_on(self):
        weak = Source((90, 1), (10, 1))
        wrong = [value for value in any_values() if type(value) is not int] + [-1, -2, -999999999]
        wrong += [True, False, "2", (2,), [2], (2, 1), {2: 1}, None, weak, Source((2, 1), (1, 1)), Bench(PAIR)]
        for value in wrong:
            with self.subTest(value=value):
                self.assert_refused(BadMany, value, operator.mul, weak, value)
                if not isinstance(value, Source):
                    self.assert_refused(BadMany, value, operator.mul, value, weak)

    def test_of_two_sources_it_is_the_right_one(self):
        one, other = Source((2, 1), (1, 1)), Source((2, 1), (1, 1))
        self.assert_refused(BadMany, other, operator.mul, one, other)
        self.assert_refused(BadMany, one, operator.mul, other, one)
        self.assert_refused(BadMany, one, operator.mul, one, one)


class Comparing(Case):

    def test_at_least_beside_each_load(self):
        # With sources as small as these, a load of a million tells the same as each greater one.
        loads = [(0, 1), (1, 7), (1, 1), (5, 1), (1000, 1), (1000000, 1)]
        for one in sources():
            for other in sources():
                wanted = all(fraction(one.at(load)) >= fraction(other.at(load)) for load in loads)
                self.assert_same([one >= other, other <= one], [wanted, wanted])

    def test_neither_is_at_least_the_other_one(self):
        one, other = Source((90, 1), (10, 1)), Source((80, 1), (1, 1))
        self.assert_same([one >= other, one <= other, other >= one, other <= one], [False] * 4)

    def test_edges(self):
        high, low, firm = Source((6, 1), (3, 1)), Source((4, 1), (2, 1)), Source((6, 1), (0, 1))
        none, weak = Source((0, 1), (0, 1)), Source((0, 1), (9, 1))
        # In the limit of great loads high and low read the same.
        self.assert_same([high >= low, high <= low, firm >= high, firm <= high], [True, False, True, False])
        self.assert_same([high >= high, high <= high, none >= weak, none <= weak], [True] * 4)
        self.assert_same([low >= none, low <= none], [True, False])

    def test_a_slight_excess(self):
        less, more = (999999999, 999999998), (999999998, 999999997)
        one, other = Source(less, (1, 1)), Source(more, (1, 1))
        self.assert_same([one >= other, one <= other], [False, True])
        one, other = Source((1, 1), less), Source((1, 1), more)
        self.assert_same([one >= other, one <= other], [True, False])

    def test_anything_but_a_source(self):
        source = Source((90, 1), (10, 1))
        for value in any_values():
            if not isinstance(value, Source):
                with self.subTest(value=value):
                    for sign in (operator.ge, operator.le):
                        self.raised(TypeError, sign, source, value)
                        self.raised(TypeError, sign, value, source)

    def test_other_operators(self):
        source = Source((90, 1), (10, 1))
        signs = (
            operator.lt, operator.gt, operator.sub, operator.truediv, operator.floordiv, operator.mod, operator.pow,
            operator.or_, operator.xor, operator.lshift, operator.rshift, operator.matmul,
        )
        for sign in signs:
            for value in (source, Source((1, 1), (1, 1)), 1, 0, True, None, (1, 1), [1], Bench(PAIR)):
                with self.subTest(sign=sign.__name__, value=value):
                    self.raised(TypeError, sign, source, value)
                    self.raised(TypeError, sign, value, source)
        for sign in (operator.neg, operator.pos, operator.invert, operator.abs):
            self.raised(TypeError, sign, source)

    def test_equality(self):
        for volts in SMALL:
            for ohms in SMALL:
                for other in sources():
                    wanted = (volts, ohms) == (other.volts, other.ohms)
                    made = Source(volts, ohms)
                    self.assert_same([made == other, other == made, made != other], [wanted, wanted, not wanted])

    def test_equal_to_nothing_else(self):
        for source in (Source((90, 1), (10, 1)), Source((0, 1), (0, 1)), Source((1, 1), (1, 1))):
            others = [value for value in any_values() if not isinstance(value, Source)]
            others += [(source.volts, source.ohms), [source.volts, source.ohms], source.volts, (source,)]
            for value in others:
                with self.subTest(value=value):
                    self.assert_same([source == value, value == source], [False, False])
                    self.assert_same([source != value, value != source], [True, True])

    def test_equal_calls_return_equal_results(self):
        one, other = Source((3, 2), (5, 7)), Source((9, 4), (1, 3))
        self.assertEqual(one & other, one & other)
        self.assertEqual(one + other, one + other)
        self.assertEqual(one.under((1, 3)), one.under((1, 3)))
        self.assertEqual(one.at((1, 3)), pair_of(Fraction(3, 2) / (1 + Fraction(5, 21))))


if __name__ == "__main__":
    unittest.main()
