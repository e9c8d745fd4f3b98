import inspect
import itertools
import unittest

from keptranges import asking
from keptranges.asking import asks, asks_within, cost_of, lacking, waste
from keptranges.spreads import is_spread, is_within, turned_out
from tests.helpers import gap_choices, kinds_told, plain_keys, plain_spread, spreads_below

GAPPED = ((0, 2), (5, 6), (10, 12), (13, 14), (16, 20))
EVEN = tuple((key, key + 1) for key in range(0, 100, 2))


class InterfaceTest(unittest.TestCase):
    def test_names_and_how_many_arguments(self):
        listed = {"lacking": 3, "asks": 2, "cost_of": 2, "waste": 2, "asks_within": 2}
        for name, many in listed.items():
            parameters = inspect.signature(getattr(asking, name)).parameters
            self.assertEqual(len(parameters), many, name)


class LackingTest(unittest.TestCase):
    def test_examples(self):
        self.assertEqual(lacking((), 0, 100), ((0, 100),))
        self.assertEqual(lacking(((0, 100),), 0, 100), ())
        self.assertEqual(lacking(((3, 5),), 0, 9), ((0, 3), (5, 9)))

    def test_is_turned_out(self):
        for spread in spreads_below(6):
            for first, last in itertools.combinations(range(8), 2):
                self.assertEqual(lacking(spread, first, last), turned_out(spread, first, last))


class AsksTest(unittest.TestCase):
    def test_gaps_of_just_cost_one_fewer_and_one_more(self):
        spread = ((0, 2), (5, 6))
        self.assertEqual(asks(spread, 2), spread)
        self.assertEqual(asks(spread, 3), spread)
        self.assertEqual(asks(spread, 4), ((0, 6),))

    def test_cost_0_and_1(self):
        for spread in (*spreads_below(7), GAPPED, EVEN):
            self.assertEqual(asks(spread, 0), spread)
            self.assertEqual(asks(spread, 1), spread)
        self.assertEqual(asks(EVEN, 2), ((0, 99),))

    def test_several_gaps(self):
        self.assertEqual(asks(GAPPED, 2), ((0, 2), (5, 6), (10, 14), (16, 20)))
        self.assertEqual(asks(GAPPED, 3), ((0, 2), (5, 6), (10, 20)))
        self.assertEqual(asks(GAPPED, 4), ((0, 6), (10, 20)))
        self.assertEqual(asks(GAPPED, 5), ((0, 20),))

    def test_nothing(self):
        self.assertEqual(asks((), 0), ())
        self.assertEqual(asks((), 5), ())

    def test_gap_by_gap(self):
        for spread in spreads_below(8):
            for cost in range(8):
                told = asks(spread, cost)
                gaps = [
                    (ahead[1], behind[0]) for ahead, behind in zip(spread, spread[1:])
                    if behind[0] - ahead[1] < cost
                ]
                self.assertEqual(told, plain_spread(plain_keys(spread) | plain_keys(gaps)))
                self.assertTrue(is_within(spread, told))

    def test_none_cost_less(self):
        for spread in spreads_below(9):
            for cost in range(6):
                told = cost_of(asks(spread, cost), cost)
                least = min(cost_of(choice, cost) for choice in gap_choices(spread))
                self.assertEqual(told, least, (spread, cost))


class CostTest(unittest.TestCase):
    def test_examples(self):
        self.assertEqual(cost_of((), 5), 0)
        self.assertEqual(cost_of(((0, 1),), 0), 1)
        self.assertEqual(cost_of(((0, 1),), 5), 6)
        self.assertEqual(cost_of(((0, 3), (7, 9)), 4), 13)
        self.assertEqual(cost_of(((0, 100),), 7), 107)

    def test_each_stretch_costs_for_itself(self):
        self.assertEqual(cost_of(((5, 9), (0, 5)), 2), 13)
        self.assertEqual(cost_of(((0, 5), (3, 8), (0, 5)), 2), 21)

    def test_key_by_key(self):
        for spread in spreads_below(7):
            for cost in range(4):
                self.assertEqual(cost_of(spread, cost), cost * len(spread) + len(plain_keys(spread)))


class WasteTest(unittest.TestCase):
    def test_examples(self):
        self.assertEqual(waste((), 9), 0)
        self.assertEqual(waste(((0, 2), (5, 6)), 3), 0)
        self.assertEqual(waste(((0, 2), (5, 6)), 4), 3)
        self.assertEqual([waste(GAPPED, cost) for cost in range(6)], [0, 0, 1, 3, 6, 10])

    def test_key_by_key(self):
        for spread in spreads_below(8):
            for cost in range(6):
                more = plain_keys(asks(spread, cost)) - plain_keys(spread)
                self.assertEqual(waste(spread, cost), len(more))


def plain_asks_within(spread, many):
    """One least gap after the other is asked for, too, the first of several, until they are few enough."""
    told = list(spread)
    while len(told) > many:
        lengths = [behind[0] - ahead[1] for ahead, behind in zip(told, told[1:])]
        at = lengths.index(min(lengths))
        told[at:at + 2] = [(told[at][0], told[at + 1][1])]
    return tuple(told)


class AsksWithinTest(unittest.TestCase):
    def test_as_many_as_there_are_and_more(self):
        for spread in (*spreads_below(7), GAPPED, EVEN):
            for more in range(3):
                self.assertEqual(asks_within(spread, max(1, len(spread)) + more), spread)

    def test_one(self):
        self.assertEqual(asks_within((), 1), ())
        self.assertEqual(asks_within(((3, 4),), 1), ((3, 4),))
        self.assertEqual(asks_within(GAPPED, 1), ((0, 20),))
        self.assertEqual(asks_within(EVEN, 1), ((0, 99),))

    def test_least_gaps_first(self):
        self.assertEqual(asks_within(GAPPED, 4), ((0, 2), (5, 6), (10, 14), (16, 20)))
        self.assertEqual(asks_within(GAPPED, 3), ((0, 2), (5, 6), (10, 20)))
        self.assertEqual(asks_within(GAPPED, 2), ((0, 6), (10, 20)))

    def test_of_gaps_as_long_the_first_ones(self):
        self.assertEqual(asks_within(((0, 1), (3, 4), (6, 7), (9, 10)), 3), ((0, 4), (6, 7), (9, 10)))
        self.assertEqual(asks_within(((0, 1), (3, 4), (6, 7), (9, 10)), 2), ((0, 7), (9, 10)))
        self.assertEqual(asks_within(((0, 1), (5, 6), (8, 9), (11, 12)), 3), ((0, 1), (5, 9), (11, 12)))
        self.assertEqual(asks_within(EVEN, 49), ((0, 3), *EVEN[2:]))

    def test_one_gap_after_the_other(self):
        for spread in (*spreads_below(9), GAPPED, EVEN):
            for many in range(1, 7):
                self.assertEqual(asks_within(spread, many), plain_asks_within(spread, many))

    def test_no_fewer_keys_by_as_few_asks(self):
        for spread in spreads_below(10):
            choices = list(gap_choices(spread))
            for many in range(1, 6):
                told = asks_within(spread, many)
                self.assertLessEqual(len(told), many)
                self.assertIn(told, choices)
                fewest = min(len(plain_keys(choice)) for choice in choices if len(choice) <= many)
                self.assertEqual(len(plain_keys(told)), fewest, (spread, many))


class ValuesTest(unittest.TestCase):
    def test_kinds_told(self):
        for spread in ((), ((0, 100),), GAPPED, EVEN):
            for told in (lacking(spread, 0, 100), asks(spread, 3), asks_within(spread, 2)):
                self.assertIs(type(told), tuple)
                self.assertTrue(kinds_told(told))
                self.assertTrue(is_spread(told))
            self.assertIs(type(cost_of(spread, 3)), int)
            self.assertIs(type(waste(spread, 3)), int)

    def test_the_same_again(self):
        for spread in ((), ((0, 100),), GAPPED, EVEN):
            self.assertEqual(asks(spread, 3), asks(spread, 3))
            self.assertEqual(asks_within(spread, 3), asks_within(spread, 3))

    def test_no_error_somewhat_beyond_the_limits(self):
        for spread in ((), ((0, 100),), GAPPED, EVEN):
            self.assertEqual(asks(spread, -1), spread)
            self.assertTrue(is_within(spread, asks_within(spread, 0)))
            self.assertTrue(is_within(spread, asks_within(spread, -1)))
