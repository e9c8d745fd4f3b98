import copy
import inspect
import itertools
import unittest

from keptranges import spreads
from keptranges.spreads import (
    first_free, has, is_spread, is_stretch, is_within, joined, keys_of, met,
    parts, size, spread_by, spread_of, turned_out, without,
)
from tests.helpers import kinds_told, plain_keys, plain_spread, sets_below, spreads_below

NO_NUMBERS = (True, False, None, "", "1", "ab", [], [1], (), (1,), (0, 1), [0, 1])
NO_STRETCHES = (
    0, 1, -1, 99, True, False, None, "", "ab", "01", "0-1", [], [0, 1], [[0, 1]], (), (1,), (0, 1, 2),
    ((0, 1),), ((0, 1), (2, 3)), ([0], [1]), ((0,), (1,)), [(0, 1)], (((0, 1),),), [[[[[0, 1]]]]],
    (((((0, 1),),),),),
)
SOME = (
    (), ((0, 1),), ((0, 100),), ((99, 100),), ((0, 1), (99, 100)), ((0, 50), (51, 100)),
    ((10, 20), (30, 40), (50, 60)), tuple((key, key + 1) for key in range(0, 100, 2)),
    tuple((key, key + 1) for key in range(1, 100, 2)), ((5, 15), (25, 45), (59, 61)),
)


class InterfaceTest(unittest.TestCase):
    def test_names_and_how_many_arguments(self):
        listed = {
            "is_stretch": 1, "is_spread": 1, "has": 2, "is_within": 2, "spread_of": 1, "spread_by": 1,
            "size": 1, "keys_of": 1, "joined": 2, "met": 2, "without": 2, "turned_out": 3,
            "first_free": 4, "parts": 2,
        }
        for name, many in listed.items():
            parameters = inspect.signature(getattr(spreads, name)).parameters
            self.assertEqual(len(parameters), many, name)


class IsStretchTest(unittest.TestCase):
    def test_all_pairs_at_the_edges_and_beyond(self):
        near = [*range(-3, 4), *range(48, 52), *range(97, 104), -100, 1000]
        for first, last in itertools.product(near, near):
            wanted = 0 <= first and first < last and last <= 100
            self.assertIs(is_stretch((first, last)), wanted, (first, last))

    def test_named_edges(self):
        self.assertIs(is_stretch((0, 1)), True)
        self.assertIs(is_stretch((99, 100)), True)
        self.assertIs(is_stretch((0, 100)), True)
        self.assertIs(is_stretch((0, 101)), False)
        self.assertIs(is_stretch((100, 101)), False)
        self.assertIs(is_stretch((-1, 5)), False)
        self.assertIs(is_stretch((5, 5)), False)
        self.assertIs(is_stretch((6, 5)), False)

    def test_no_number_in_the_place_of_a_number(self):
        for wrong in NO_NUMBERS:
            for thing in ((wrong, 5), (0, wrong), (wrong, 100), (wrong, wrong)):
                self.assertIs(is_stretch(thing), False, thing)

    def test_truths_are_no_whole_numbers(self):
        self.assertIs(is_stretch((False, True)), False)
        self.assertIs(is_stretch((False, 5)), False)
        self.assertIs(is_stretch((0, True)), False)
        self.assertIs(is_stretch((True, 5)), False)

    def test_other_things(self):
        for thing in NO_STRETCHES:
            self.assertIs(is_stretch(thing), False, thing)


class IsSpreadTest(unittest.TestCase):
    def test_spreads(self):
        for thing in SOME:
            self.assertIs(is_spread(thing), True, thing)

    def test_two_stretches(self):
        stretches = [(first, last) for first in range(5) for last in range(first + 1, 6)]
        for one, other in itertools.product(stretches, stretches):
            self.assertIs(is_spread((one, other)), other[0] > one[1], (one, other))

    def test_wrong_order_or_touching_further_behind(self):
        for thing in (
            ((0, 1), (2, 3), (3, 4)), ((0, 1), (5, 9), (6, 7)), ((0, 1), (5, 6), (2, 3)),
            ((0, 1), (2, 3), (2, 3)), ((2, 3), (0, 1), (5, 6)), ((0, 9), (4, 5), (10, 11)),
        ):
            self.assertIs(is_spread(thing), False, thing)

    def test_no_stretch_in_the_place_of_a_stretch(self):
        for wrong in NO_STRETCHES + ((-1, 5), (5, 5), (90, 101), (True, 5), (0, True)):
            self.assertIs(is_spread((wrong,)), False, (wrong,))
            self.assertIs(is_spread((wrong, (50, 60))), False, wrong)
            self.assertIs(is_spread(((50, 60), wrong)), False, wrong)

    def test_other_things(self):
        for thing in (
            0, 1, True, False, None, "", "ab", "0-1", [], [(0, 1)], [[0, 1]], [()], (0, 1), (0,),
            ([],), ((),), ([0, 1],), (((0, 1),),), [((0, 1),)], ((((0, 1),),),), [[[[[]]]]], ((0, 1), [2, 3]),
        ):
            self.assertIs(is_spread(thing), False, thing)

    def test_things_are_as_they_were(self):
        for thing in ([(0, 1), [2, 3]], ([0, 1],), [[[1], "a"], None], ((0, 1), [2, 3])):
            before = copy.deepcopy(thing)
            is_stretch(thing)
            is_spread(thing)
            self.assertEqual(thing, before)


class MakingTest(unittest.TestCase):
    def test_spread_of_nothing(self):
        self.assertEqual(spread_of(()), ())
        self.assertEqual(spread_by(()), ())

    def test_spread_of_examples(self):
        self.assertEqual(spread_of(((5, 9), (0, 2))), ((0, 2), (5, 9)))
        self.assertEqual(spread_of(((0, 2), (2, 4))), ((0, 4),))
        self.assertEqual(spread_of(((2, 4), (0, 2), (4, 5))), ((0, 5),))
        self.assertEqual(spread_of(((0, 9), (3, 4))), ((0, 9),))
        self.assertEqual(spread_of(((3, 4), (0, 9), (3, 4))), ((0, 9),))
        self.assertEqual(spread_of(((0, 5), (3, 8), (9, 10))), ((0, 8), (9, 10)))
        self.assertEqual(spread_of(((0, 100), (99, 100), (0, 1))), ((0, 100),))

    def test_spread_of_any_three_stretches(self):
        stretches = [(first, last) for first in range(5) for last in range(first + 1, 6)]
        for some in itertools.product(stretches, repeat=3):
            told = spread_of(some)
            self.assertEqual(told, plain_spread(plain_keys(some)), some)
            self.assertTrue(is_spread(told))

    def test_spread_of_a_spread_is_itself(self):
        for spread in SOME:
            self.assertEqual(spread_of(spread), spread)
            self.assertEqual(spread_of(spread[::-1] + spread), spread)

    def test_spread_by_examples(self):
        self.assertEqual(spread_by((99,)), ((99, 100),))
        self.assertEqual(spread_by((3, 1, 2, 1, 3)), ((1, 4),))
        self.assertEqual(spread_by((0, 99, 50)), ((0, 1), (50, 51), (99, 100)))
        self.assertEqual(spread_by(tuple(range(99, -1, -1))), ((0, 100),))

    def test_spread_by_any_order(self):
        for keys in sets_below(7):
            rising = tuple(sorted(keys))
            wanted = plain_spread(keys)
            self.assertEqual(spread_by(rising), wanted)
            self.assertEqual(spread_by(rising[::-1]), wanted)
            self.assertEqual(spread_by(rising[::2] + rising[::-1] + rising[1::2]), wanted)

    def test_one_spread_for_any_keys(self):
        told = {}
        for some in itertools.product(range(5), repeat=4):
            told.setdefault(frozenset(some), set()).add(spread_by(some))
        self.assertTrue(all(len(forms) == 1 for forms in told.values()))
        self.assertEqual(len(told), len({form for forms in told.values() for form in forms}))


class AskingOneSpreadTest(unittest.TestCase):
    def test_has_key_by_key(self):
        for spread in SOME + tuple(spreads_below(6)):
            keys = plain_keys(spread)
            for key in range(-2, 103):
                self.assertIs(has(spread, key), key in keys, (spread, key))

    def test_size_and_keys(self):
        for spread in SOME + tuple(spreads_below(7)):
            keys = plain_keys(spread)
            self.assertEqual(size(spread), len(keys))
            self.assertEqual(keys_of(spread), tuple(sorted(keys)))

    def test_of_no_key(self):
        self.assertEqual(size(()), 0)
        self.assertEqual(keys_of(()), ())
        self.assertIs(has((), 0), False)

    def test_a_spread_and_its_keys_tell_one_another(self):
        for spread in SOME:
            self.assertEqual(spread_by(keys_of(spread)), spread)


class TwoSpreadsTest(unittest.TestCase):
    def check(self, one, other):
        keys, others = plain_keys(one), plain_keys(other)
        self.assertEqual(joined(one, other), plain_spread(keys | others), (one, other))
        self.assertEqual(met(one, other), plain_spread(keys & others), (one, other))
        self.assertEqual(without(one, other), plain_spread(keys - others), (one, other))
        self.assertIs(is_within(one, other), keys <= others, (one, other))

    def test_all_small_ones(self):
        small = spreads_below(6)
        for one, other in itertools.product(small, small):
            self.check(one, other)

    def test_larger_ones(self):
        for one, other in itertools.product(SOME, SOME):
            self.check(one, other)

    def test_examples(self):
        self.assertEqual(joined(((0, 5),), ((5, 9),)), ((0, 9),))
        self.assertEqual(met(((0, 5),), ((5, 9),)), ())
        self.assertEqual(without(((0, 9),), ((3, 5),)), ((0, 3), (5, 9)))
        self.assertIs(is_within((), ()), True)
        self.assertIs(is_within((), ((0, 1),)), True)
        self.assertIs(is_within(((0, 1),), ()), False)

    def test_turned_out_all_small_ones(self):
        for spread in spreads_below(6):
            for first in range(7):
                for last in range(first + 1, 8):
                    wanted = plain_spread(set(range(first, last)) - plain_keys(spread))
                    self.assertEqual(turned_out(spread, first, last), wanted, (spread, first, last))

    def test_turned_out_larger_ones(self):
        for spread in SOME:
            for first, last in ((0, 100), (0, 1), (99, 100), (15, 55), (20, 30), (19, 31)):
                wanted = plain_spread(set(range(first, last)) - plain_keys(spread))
                self.assertEqual(turned_out(spread, first, last), wanted)

    def test_turned_out_twice_is_the_spread(self):
        for spread in SOME:
            self.assertEqual(turned_out(turned_out(spread, 0, 100), 0, 100), spread)


def plain_first_free(spread, long, first, last):
    keys = plain_keys(spread)
    for key in range(first, last):
        if key + long <= last and not keys & set(range(key, key + long)):
            return key
    return None


class FirstFreeTest(unittest.TestCase):
    def test_all_small_ones(self):
        for spread in spreads_below(6):
            for first in range(6):
                for last in range(first + 1, 8):
                    for long in range(1, 9):
                        wanted = plain_first_free(spread, long, first, last)
                        told = first_free(spread, long, first, last)
                        self.assertEqual(told, wanted, (spread, long, first, last))

    def test_gap_inside(self):
        spread = ((0, 10), (13, 20), (25, 100))
        self.assertEqual(first_free(spread, 1, 0, 100), 10)
        self.assertEqual(first_free(spread, 3, 0, 100), 10)
        self.assertEqual(first_free(spread, 4, 0, 100), 20)
        self.assertEqual(first_free(spread, 5, 0, 100), 20)
        self.assertIsNone(first_free(spread, 6, 0, 100))

    def test_gap_at_the_front_and_at_the_end(self):
        spread = ((10, 90),)
        self.assertEqual(first_free(spread, 10, 0, 100), 0)
        self.assertEqual(first_free(spread, 5, 5, 100), 5)
        self.assertEqual(first_free(spread, 6, 5, 100), 90)
        self.assertEqual(first_free(spread, 10, 1, 100), 90)
        self.assertIsNone(first_free(spread, 10, 1, 99))
        self.assertEqual(first_free(spread, 1, 50, 91), 90)
        self.assertIsNone(first_free(spread, 1, 10, 90))

    def test_no_spread_in_the_way(self):
        self.assertEqual(first_free((), 100, 0, 100), 0)
        self.assertIsNone(first_free((), 101, 0, 100))
        self.assertEqual(first_free((), 1, 99, 100), 99)
        self.assertIsNone(first_free(((0, 100),), 1, 0, 100))


def plain_parts(spread, most):
    cut = []
    for first, last in spread:
        while last - first > most:
            cut.append((first, first + most))
            first += most
        cut.append((first, last))
    return tuple(cut)


class PartsTest(unittest.TestCase):
    def test_examples(self):
        self.assertEqual(parts((), 3), ())
        self.assertEqual(parts(((0, 3),), 1), ((0, 1), (1, 2), (2, 3)))
        self.assertEqual(parts(((4, 9),), 5), ((4, 9),))
        self.assertEqual(parts(((4, 9),), 6), ((4, 9),))
        self.assertEqual(parts(((4, 9),), 4), ((4, 8), (8, 9)))
        self.assertEqual(parts(((4, 9), (10, 12)), 3), ((4, 7), (7, 9), (10, 12)))
        self.assertEqual(parts(((0, 100),), 99), ((0, 99), (99, 100)))
        self.assertEqual(parts(((0, 100),), 1000), ((0, 100),))

    def test_key_by_key(self):
        for spread in SOME + tuple(spreads_below(6)):
            for most in (1, 2, 3, 4, 7, 50, 100, 101):
                told = parts(spread, most)
                self.assertEqual(told, plain_parts(spread, most))
                self.assertEqual(keys_of(told), keys_of(spread))


class ValuesTest(unittest.TestCase):
    def test_kinds_told(self):
        for spread in SOME:
            for told in (
                spread_of(spread), spread_by(keys_of(spread)), keys_of(spread), joined(spread, spread),
                met(spread, spread), without(spread, ((3, 6),)), turned_out(spread, 0, 100),
                parts(spread, 3),
            ):
                self.assertIs(type(told), tuple)
                self.assertTrue(kinds_told(told))
            self.assertIs(type(size(spread)), int)

    def test_the_same_again(self):
        for one, other in itertools.product(SOME, SOME):
            before = copy.deepcopy((one, other))
            for ask in (joined, met, without, is_within):
                self.assertEqual(ask(one, other), ask(one, other))
            self.assertEqual((one, other), before)

    def test_no_error_somewhat_beyond_the_limits(self):
        for spread in SOME:
            self.assertIs(has(spread, -1), False)
            self.assertIs(has(spread, 100), False)
            for most in (0, -1):
                self.assertEqual(keys_of(parts(spread, most)), keys_of(spread))
            first_free(spread, 0, 0, 100)
            first_free(spread, -1, 0, 100)
            turned_out(spread, -2, 103)
            self.assertEqual(turned_out(spread, 5, 5), ())
            self.assertEqual(turned_out(spread, 6, 5), ())
        self.assertEqual(spread_by((-1, 100, 101)), ((-1, 0), (100, 102)))
