import inspect
import itertools
import random
import unittest

from keptranges.asking import asks, lacking
from keptranges.keepers import Keeper
from keptranges.sources import Source
from keptranges.spreads import is_spread, keys_of, size
from tests.helpers import (
    WatchedSource, all_stretches, asked_for, did, kinds_told, plain_keys, plain_spread, random_step,
    random_stretch, rows_in, stood,
)

ROWS = ((40, 4), (3, 0), (99, 9), (0, 1), (41, 5), (7, 7), (12, 2), (13, 3), (60, 6), (61, 0))
PLENTY = 1000


class PlainKeeper:
    """A keeper told by a count key by key of when each was asked for last, with its own list of changes."""

    def __init__(self, rows, steps, room, cost):
        self.rows = rows
        self.steps = steps
        self.room = room
        self.cost = cost
        self.heard = len(steps)
        self.kept = {}
        self.when = {}
        self.now = 0
        self.seen = []

    def known(self):
        return plain_spread(set(self.kept))

    def hear(self):
        changed = {step[1] for step in self.steps[self.heard:]}
        self.heard = len(self.steps)
        gone = changed & set(self.kept)
        for key in gone:
            del self.kept[key]
        return plain_spread(gone)

    def peek(self, first, last):
        if any(key not in self.kept for key in range(first, last)):
            return None
        return tuple((key, self.kept[key]) for key in range(first, last) if self.kept[key] is not None)

    def plan(self, first, last):
        told = []
        for key in range(first, last):
            if key in self.kept:
                continue
            between = key - told[-1][1] if told else None
            if told and (between == 0 or between < self.cost):
                told[-1][1] = key + 1
            else:
                told.append([key, key + 1])
        return tuple((start, end) for start, end in told)

    def ask(self, first, last):
        self.hear()
        self.now += 1
        worths = stood(self.rows, self.steps)
        for start, end in self.plan(first, last):
            self.seen.append((start, end))
        for key in range(first, last):
            self.kept[key] = worths.get(key)
            self.when[key] = self.now
        self.make_room()
        return rows_in(worths, first, last)

    def page(self, first, many):
        rows = ()
        start = first
        while len(rows) < many and start < 100:
            rows += self.ask(start, min(100, start + 8))
            start += 8
        if len(rows) < many:
            return (rows, None)
        following = rows[many - 1][0] + 1 if many else first
        return (rows[:many], None if following == 100 else following)

    def share(self, other):
        self.hear()
        other.hear()
        self.now += 1
        fresh = set(other.kept) - set(self.kept)
        for key in fresh:
            self.kept[key] = other.kept[key]
            self.when[key] = self.now
        self.make_room()
        return plain_spread(fresh)

    def make_room(self):
        while len(self.kept) > self.room:
            del self.kept[min(self.kept, key=lambda key: (self.when[key], key))]


def keeper_of(rows=ROWS, room=PLENTY, cost=0):
    source = WatchedSource(rows)
    return source, Keeper(source, room, cost)


def all_told(keeper):
    """Everything that can be asked of a keeper without a change of it."""
    stretches = ((0, 100), (0, 1), (3, 9), (12, 14), (99, 100))
    return (
        keeper.known(),
        [keeper.peek(first, last) for first, last in stretches],
        [keeper.plan(first, last) for first, last in stretches],
    )


class InterfaceTest(unittest.TestCase):
    def test_each_method_is_defined_in_the_class_itself(self):
        listed = {"__init__": 3, "known": 0, "hear": 0, "peek": 2, "plan": 2, "ask": 2, "page": 2, "share": 1}
        for name, many in listed.items():
            self.assertIn(name, vars(Keeper))
            parameters = inspect.signature(vars(Keeper)[name]).parameters
            self.assertEqual(len(parameters), many + 1, name)


class NewKeeperTest(unittest.TestCase):
    def test_keeps_nothing(self):
        for room, cost in itertools.product((0, 1, 100, PLENTY), (0, 1, 50)):
            source, keeper = keeper_of(room=room, cost=cost)
            self.assertEqual(keeper.known(), ())
            self.assertEqual(keeper.hear(), ())
            self.assertIsNone(keeper.peek(0, 1))
            self.assertEqual(keeper.plan(3, 9), ((3, 9),))
            self.assertEqual(source.told(), (0, 0))

    def test_made_behind_changes(self):
        source = WatchedSource(ROWS)
        source.put(3, 9)
        keeper = Keeper(source, PLENTY, 0)
        self.assertEqual(keeper.hear(), ())
        self.assertEqual(keeper.ask(0, 8), ((0, 1), (3, 9), (7, 7)))
        self.assertEqual(keeper.hear(), ())
        self.assertEqual(keeper.known(), ((0, 8),))


class HearTest(unittest.TestCase):
    def test_what_was_kept_and_changed(self):
        source, keeper = keeper_of()
        keeper.ask(0, 10)
        keeper.ask(40, 42)
        source.put(3, 5)
        source.put(4, 5)
        source.drop(41)
        self.assertEqual(keeper.known(), ((0, 10), (40, 42)))
        self.assertEqual(keeper.hear(), ((3, 5), (41, 42)))
        self.assertEqual(keeper.known(), ((0, 3), (5, 10), (40, 41)))

    def test_changes_of_what_is_not_kept(self):
        source, keeper = keeper_of()
        keeper.ask(3, 10)
        source.put(2, 5)
        source.drop(10)
        self.assertEqual(keeper.hear(), ())
        self.assertEqual(keeper.known(), ((3, 10),))
        source.put(99, 1)
        source.put(3, 1)
        source.put(9, 1)
        self.assertEqual(keeper.hear(), ((3, 4), (9, 10)))

    def test_heard_twice(self):
        source, keeper = keeper_of()
        keeper.ask(0, 10)
        source.put(3, 5)
        self.assertEqual(keeper.hear(), ((3, 4),))
        self.assertEqual(keeper.hear(), ())
        keeper.ask(0, 10)
        self.assertEqual(keeper.hear(), ())
        self.assertEqual(keeper.known(), ((0, 10),))

    def test_a_change_of_nothing_is_a_change(self):
        source, keeper = keeper_of()
        keeper.ask(0, 10)
        source.put(7, 7)
        source.drop(8)
        self.assertEqual(keeper.hear(), ((7, 9),))
        source.put(0, 5)
        source.put(0, 1)
        self.assertEqual(keeper.hear(), ((0, 1),))
        self.assertEqual(keeper.known(), ((1, 7), (9, 10)))

    def test_does_not_ask_the_source(self):
        source, keeper = keeper_of()
        keeper.ask(0, 10)
        source.put(7, 7)
        keeper.hear()
        self.assertEqual(source.told(), (1, 10))


class PeekTest(unittest.TestCase):
    def test_all_some_and_none_kept(self):
        source, keeper = keeper_of()
        keeper.ask(2, 14)
        self.assertEqual(keeper.peek(2, 14), ((3, 0), (7, 7), (12, 2), (13, 3)))
        self.assertEqual(keeper.peek(7, 13), ((7, 7), (12, 2)))
        self.assertEqual(keeper.peek(4, 7), ())
        for first, last in ((1, 14), (2, 15), (0, 100), (0, 2), (14, 15), (50, 60)):
            self.assertIsNone(keeper.peek(first, last))

    def test_every_small_stretch(self):
        source, keeper = keeper_of()
        keeper.ask(2, 5)
        keeper.ask(6, 9)
        for first, last in all_stretches(11):
            kept = set(range(first, last)) <= {2, 3, 4, 6, 7, 8}
            wanted = rows_in(dict(ROWS), first, last) if kept else None
            self.assertEqual(keeper.peek(first, last), wanted)

    def test_behind_changes_that_were_not_heard(self):
        source, keeper = keeper_of()
        keeper.ask(0, 10)
        source.put(3, 5)
        source.drop(7)
        source.put(8, 1)
        self.assertEqual(keeper.peek(0, 10), ((0, 1), (3, 0), (7, 7)))
        keeper.hear()
        self.assertIsNone(keeper.peek(0, 10))
        self.assertEqual(keeper.peek(0, 3), ((0, 1),))

    def test_does_not_ask_or_count_as_asked(self):
        source, keeper = keeper_of(room=2)
        keeper.ask(0, 1)
        keeper.ask(5, 6)
        keeper.peek(0, 1)
        keeper.plan(0, 1)
        self.assertEqual(source.told(), (2, 2))
        keeper.ask(9, 10)
        self.assertEqual(keeper.known(), ((5, 6), (9, 10)))


class PlanTest(unittest.TestCase):
    def test_gaps_of_just_cost_one_fewer_and_one_more(self):
        for cost in range(1, 12):
            for between in range(1, 14):
                source, keeper = keeper_of(cost=cost)
                keeper.ask(20, 20 + between)
                wanted = ((10, 40),) if between < cost else ((10, 20), (20 + between, 40))
                self.assertEqual(keeper.plan(10, 40), wanted, (cost, between))

    def test_cost_0_and_1_ask_for_no_kept_key(self):
        for cost in (0, 1):
            source, keeper = keeper_of(cost=cost)
            for key in range(0, 100, 2):
                keeper.ask(key, key + 1)
            self.assertEqual(keeper.plan(0, 100), tuple((key, key + 1) for key in range(1, 100, 2)))

    def test_kept_keys_at_the_ends_are_not_asked_for(self):
        source, keeper = keeper_of(cost=50)
        keeper.ask(0, 3)
        keeper.ask(8, 10)
        self.assertEqual(keeper.plan(0, 10), ((3, 8),))
        self.assertEqual(keeper.plan(1, 9), ((3, 8),))
        self.assertEqual(keeper.plan(0, 3), ())
        self.assertEqual(keeper.plan(8, 9), ())

    def test_is_asks_of_what_lacks(self):
        source, keeper = keeper_of(cost=3)
        for first, last in ((4, 5), (7, 9), (12, 15)):
            keeper.ask(first, last)
        for first, last in all_stretches(18):
            self.assertEqual(keeper.plan(first, last), asks(lacking(keeper.known(), first, last), 3))

    def test_does_not_hear(self):
        source, keeper = keeper_of()
        keeper.ask(0, 10)
        source.put(3, 5)
        self.assertEqual(keeper.plan(0, 10), ())
        self.assertEqual(keeper.hear(), ((3, 4),))
        self.assertEqual(keeper.plan(0, 10), ((3, 4),))


class AskTest(unittest.TestCase):
    def test_its_rows_are_the_sources(self):
        source, keeper = keeper_of()
        for first, last in ((0, 1), (0, 100), (3, 8), (4, 7), (99, 100), (12, 13), (12, 62)):
            self.assertEqual(keeper.ask(first, last), source.look(first, last))

    def test_what_the_source_was_asked_and_in_which_order(self):
        source, keeper = keeper_of(cost=3)
        self.assertEqual(asked_for(source, lambda: keeper.ask(10, 12)), ((10, 12),))
        self.assertEqual(asked_for(source, lambda: keeper.ask(20, 23)), ((20, 23),))
        self.assertEqual(asked_for(source, lambda: keeper.ask(5, 30)), ((5, 20), (23, 30)))
        self.assertEqual(asked_for(source, lambda: keeper.ask(5, 30)), ())
        self.assertEqual(asked_for(source, lambda: keeper.ask(0, 35)), ((0, 5), (30, 35)))
        self.assertEqual(source.told(), (6, 37))

    def test_asked_again_nothing_is_asked(self):
        for first, last in ((0, 100), (0, 1), (99, 100), (30, 60)):
            source, keeper = keeper_of(room=last - first)
            wanted = keeper.ask(first, last)
            self.assertEqual(asked_for(source, lambda: keeper.ask(first, last)), ())
            self.assertEqual(keeper.ask(first, last), wanted)
            middle = (first + last) // 2
            self.assertEqual(asked_for(source, lambda: keeper.ask(middle, last)), ())

    def test_it_hears(self):
        source, keeper = keeper_of()
        keeper.ask(0, 10)
        source.put(3, 5)
        source.drop(7)
        source.put(7, 7)
        source.drop(50)
        self.assertEqual(asked_for(source, lambda: keeper.ask(0, 5)), ((3, 4),))
        self.assertEqual(keeper.known(), ((0, 7), (8, 10)))
        self.assertEqual(keeper.ask(0, 10), ((0, 1), (3, 5), (7, 7)))
        self.assertEqual(keeper.known(), ((0, 10),))

    def test_it_hears_of_changes_outside_of_its_stretch(self):
        source, keeper = keeper_of()
        keeper.ask(0, 10)
        source.put(3, 5)
        keeper.ask(50, 60)
        self.assertEqual(keeper.known(), ((0, 3), (4, 10), (50, 60)))

    def test_rows_that_come_and_go(self):
        source, keeper = keeper_of()
        keeper.ask(0, 100)
        source.drop(3)
        self.assertEqual(keeper.ask(0, 8), ((0, 1), (7, 7)))
        source.put(3, 0)
        self.assertEqual(keeper.ask(0, 8), ((0, 1), (3, 0), (7, 7)))
        self.assertEqual(keeper.peek(1, 3), ())

    def test_keys_between_are_asked_for_and_kept(self):
        source, keeper = keeper_of(cost=5)
        keeper.ask(12, 14)
        self.assertEqual(asked_for(source, lambda: keeper.ask(10, 16)), ((10, 16),))
        self.assertEqual(keeper.known(), ((10, 16),))
        self.assertEqual(keeper.peek(10, 16), ((12, 2), (13, 3)))


class RoomTest(unittest.TestCase):
    def test_room_0(self):
        source, keeper = keeper_of(room=0)
        for many in range(1, 4):
            self.assertEqual(keeper.ask(0, 100), source.look(0, 100))
            self.assertEqual(keeper.known(), ())
            self.assertEqual(source.told(), (many, 100 * many))

    def test_room_1(self):
        source, keeper = keeper_of(room=1)
        self.assertEqual(keeper.ask(0, 8), ((0, 1), (3, 0), (7, 7)))
        self.assertEqual(keeper.known(), ((7, 8),))
        keeper.ask(3, 4)
        self.assertEqual(keeper.known(), ((3, 4),))

    def test_less_than_is_asked_for_just_as_much_and_one_more(self):
        for room in range(13):
            source, keeper = keeper_of(room=room)
            self.assertEqual(keeper.ask(5, 15), source.look(5, 15))
            wanted = set(range(5, 15)) if room >= 10 else set(range(15 - room, 15))
            self.assertEqual(keeper.known(), plain_spread(wanted))

    def test_room_of_100_and_more_keeps_all(self):
        for room in (100, 101, PLENTY):
            source, keeper = keeper_of(room=room)
            for first in range(90, -1, -10):
                keeper.ask(first, first + 10)
            self.assertEqual(keeper.known(), ((0, 100),))

    def test_room_99_loses_the_least_of_the_first_asked(self):
        source, keeper = keeper_of(room=99)
        keeper.ask(50, 100)
        keeper.ask(0, 50)
        self.assertEqual(keeper.known(), ((0, 50), (51, 100)))

    def test_the_longest_ago_goes_and_of_several_the_least(self):
        source, keeper = keeper_of(room=6)
        keeper.ask(50, 53)
        keeper.ask(10, 13)
        keeper.ask(80, 81)
        self.assertEqual(keeper.known(), ((10, 13), (51, 53), (80, 81)))
        keeper.ask(0, 3)
        self.assertEqual(keeper.known(), ((0, 3), (11, 13), (80, 81)))
        keeper.ask(90, 93)
        self.assertEqual(keeper.known(), ((0, 3), (90, 93)))

    def test_asked_for_again_without_asking_the_source_stays(self):
        source, keeper = keeper_of(room=4)
        keeper.ask(0, 2)
        keeper.ask(10, 12)
        self.assertEqual(asked_for(source, lambda: keeper.ask(0, 1)), ())
        keeper.ask(20, 22)
        self.assertEqual(keeper.known(), ((0, 1), (11, 12), (20, 22)))
        keeper.ask(30, 31)
        self.assertEqual(keeper.known(), ((0, 1), (20, 22), (30, 31)))

    def test_no_key_goes_while_there_is_room(self):
        source, keeper = keeper_of(room=4)
        keeper.ask(0, 2)
        keeper.ask(10, 12)
        source.put(0, 5)
        keeper.ask(20, 21)
        self.assertEqual(keeper.known(), ((1, 2), (10, 12), (20, 21)))

    def test_a_key_that_went_counts_anew(self):
        source, keeper = keeper_of(room=3)
        keeper.ask(0, 1)
        keeper.ask(1, 2)
        source.put(0, 5)
        keeper.ask(2, 3)
        keeper.ask(0, 1)
        keeper.ask(5, 6)
        self.assertEqual(keeper.known(), ((0, 1), (2, 3), (5, 6)))

    def test_kept_keys_between_asks_count_as_asked_for_now(self):
        for cost in (0, 5):
            source, keeper = keeper_of(room=6, cost=cost)
            keeper.ask(12, 14)
            keeper.ask(60, 62)
            keeper.ask(11, 15)
            self.assertEqual(keeper.known(), ((11, 15), (60, 62)))
            keeper.ask(0, 2)
            self.assertEqual(keeper.known(), ((0, 2), (11, 15)))


class TwoKeepersTest(unittest.TestCase):
    def test_they_do_not_touch_one_another(self):
        source = WatchedSource(ROWS)
        one, other = Keeper(source, 20, 2), Keeper(source, 5, 0)
        other.ask(10, 14)
        before = all_told(other)
        one.ask(0, 30)
        one.page(3, 4)
        source.put(12, 9)
        one.hear()
        one.ask(12, 13)
        self.assertEqual(all_told(other), before)
        self.assertEqual(other.hear(), ((12, 13),))
        self.assertEqual(asked_for(source, lambda: other.ask(10, 14)), ((12, 13),))

    def test_the_source_counts_the_asks_of_both(self):
        source = Source(ROWS)
        one, other = Keeper(source, PLENTY, 0), Keeper(source, PLENTY, 0)
        one.ask(0, 10)
        other.ask(0, 10)
        self.assertEqual(source.told(), (2, 20))


class PageTest(unittest.TestCase):
    def test_many_0_asks_nothing(self):
        for first in (0, 1, 50, 99):
            source, keeper = keeper_of()
            self.assertEqual(keeper.page(first, 0), ((), first))
            self.assertEqual(source.told(), (0, 0))
            self.assertEqual(keeper.known(), ())

    def test_many_1(self):
        source, keeper = keeper_of()
        self.assertEqual(keeper.page(0, 1), (((0, 1),), 1))
        self.assertEqual(keeper.page(1, 1), (((3, 0),), 4))
        self.assertEqual(keeper.page(62, 1), (((99, 9),), None))

    def test_as_many_as_there_are_rows_and_one_more(self):
        rows = ((0, 1), (3, 0), (50, 5), (51, 1))
        source, keeper = keeper_of(rows=rows)
        self.assertEqual(keeper.page(0, 3), (rows[:3], 51))
        self.assertEqual(keeper.page(0, 4), (rows, 52))
        self.assertEqual(keeper.page(0, 5), (rows, None))
        self.assertEqual(keeper.page(52, 1), ((), None))

    def test_a_row_of_the_last_key(self):
        source, keeper = keeper_of()
        rows = tuple(sorted(ROWS))
        self.assertEqual(keeper.page(0, 9), (rows[:9], 62))
        self.assertEqual(keeper.page(0, 10), (rows, None))
        self.assertEqual(keeper.page(0, 11), (rows, None))

    def test_from_the_last_key(self):
        source, keeper = keeper_of()
        self.assertEqual(keeper.page(99, 0), ((), 99))
        self.assertEqual(keeper.page(99, 1), (((99, 9),), None))
        self.assertEqual(keeper.page(99, 2), (((99, 9),), None))
        source.drop(99)
        self.assertEqual(keeper.page(99, 1), ((), None))
        source, keeper = keeper_of(rows=((98, 1),))
        self.assertEqual(keeper.page(98, 1), (((98, 1),), 99))

    def test_stretches_of_8_keys(self):
        for first, many, wanted in (
            (0, 1, ((0, 8),)),
            (0, 3, ((0, 8),)),
            (0, 4, ((0, 8), (8, 16))),
            (0, 5, ((0, 8), (8, 16))),
            (1, 3, ((1, 9), (9, 17))),
            (4, 1, ((4, 12),)),
            (5, 2, ((5, 13),)),
            (80, 1, ((80, 88), (88, 96), (96, 100))),
            (92, 1, ((92, 100),)),
            (93, 1, ((93, 100),)),
            (91, 1, ((91, 99), (99, 100))),
            (62, 9, ((62, 70), (70, 78), (78, 86), (86, 94), (94, 100))),
        ):
            source, keeper = keeper_of()
            self.assertEqual(asked_for(source, lambda: keeper.page(first, many)), wanted, (first, many))
            self.assertEqual(keeper.known(), plain_spread(plain_keys(wanted)))

    def test_only_what_lacks_is_asked_for(self):
        source, keeper = keeper_of()
        keeper.ask(5, 10)
        self.assertEqual(asked_for(source, lambda: keeper.page(0, 4)), ((0, 5), (10, 16)))
        self.assertEqual(asked_for(source, lambda: keeper.page(0, 5)), ())

    def test_the_stretches_are_asked_for_one_after_the_other(self):
        source, keeper = keeper_of(room=10)
        keeper.page(0, 5)
        self.assertEqual(keeper.known(), ((6, 16),))
        keeper.ask(90, 91)
        self.assertEqual(keeper.known(), ((7, 16), (90, 91)))

    def test_led_on_to_the_end_all_rows_each_once(self):
        for room, cost, many in itertools.product((0, 3, 8, 100), (0, 4), (1, 2, 3, 7, 10, 11)):
            for first in (0, 3, 4, 62, 99):
                source, keeper = keeper_of(room=room, cost=cost)
                found, at = (), first
                while at is not None:
                    rows, at = keeper.page(at, many)
                    self.assertLessEqual(len(rows), many)
                    found += rows
                self.assertEqual(found, source.look(first, 100), (room, cost, many, first))

    def test_led_on_through_many_rows(self):
        rows = tuple((key, key // 11) for key in range(100))
        for many in (1, 7, 8, 9, 99, 100, 101):
            source, keeper = keeper_of(rows=rows)
            pages, at = [], 0
            while at is not None:
                told, at = keeper.page(at, many)
                pages.append(told)
            self.assertEqual(sum(pages, ()), rows)
            self.assertEqual(len(pages), -(-100 // many))
            self.assertEqual(source.told()[1], 100)

    def test_changes_between_pages(self):
        source, keeper = keeper_of()
        self.assertEqual(keeper.page(0, 2), (((0, 1), (3, 0)), 4))
        source.drop(7)
        source.put(5, 8)
        source.put(2, 2)
        self.assertEqual(keeper.page(4, 2), (((5, 8), (12, 2)), 13))
        source.put(13, 9)
        self.assertEqual(keeper.page(13, 1), (((13, 9),), 14))
        self.assertEqual(keeper.page(0, 3), (((0, 1), (2, 2), (3, 0)), 4))

    def test_against_the_count_key_by_key(self):
        for first, many in itertools.product(range(0, 100, 3), range(12)):
            source, keeper = keeper_of(room=9, cost=2)
            plain = PlainKeeper(ROWS, [], 9, 2)
            self.assertEqual(keeper.page(first, many), plain.page(first, many))
            self.assertEqual(source.seen, plain.seen)
            self.assertEqual(keeper.known(), plain.known())


class ShareTest(unittest.TestCase):
    def two(self, room=PLENTY, other_room=PLENTY):
        source = WatchedSource(ROWS)
        return source, Keeper(source, room, 0), Keeper(source, other_room, 0)

    def test_keys_new_and_not_new(self):
        source, one, other = self.two()
        one.ask(0, 5)
        other.ask(3, 10)
        other.ask(40, 42)
        self.assertEqual(one.share(other), ((5, 10), (40, 42)))
        self.assertEqual(one.known(), ((0, 10), (40, 42)))
        self.assertEqual(one.peek(0, 10), source.look(0, 10))
        self.assertEqual(one.peek(40, 42), source.look(40, 42))
        self.assertEqual(other.known(), ((3, 10), (40, 42)))
        self.assertEqual(one.share(other), ())

    def test_nothing_kept(self):
        source, one, other = self.two()
        self.assertEqual(one.share(other), ())
        one.ask(0, 5)
        self.assertEqual(one.share(other), ())
        self.assertEqual(other.share(one), ((0, 5),))

    def test_the_source_is_not_asked(self):
        source, one, other = self.two()
        other.ask(0, 50)
        self.assertEqual(asked_for(source, lambda: one.share(other)), ())
        self.assertEqual(asked_for(source, lambda: one.ask(0, 50)), ())
        self.assertEqual(one.ask(0, 50), source.look(0, 50))

    def test_both_hear(self):
        source, one, other = self.two()
        one.ask(0, 4)
        other.ask(2, 8)
        source.put(1, 9)
        source.put(3, 9)
        source.put(7, 9)
        self.assertEqual(one.share(other), ((4, 7),))
        self.assertEqual(one.known(), ((0, 1), (2, 3), (4, 7)))
        self.assertEqual(other.known(), ((2, 3), (4, 7)))
        self.assertEqual(one.hear(), ())
        self.assertEqual(other.hear(), ())

    def test_a_change_that_one_heard_ahead_of_the_share(self):
        source, one, other = self.two()
        other.ask(0, 8)
        source.put(3, 9)
        one.hear()
        self.assertEqual(one.share(other), ((0, 3), (4, 8)))
        source.put(5, 9)
        other.ask(0, 8)
        self.assertEqual(one.share(other), ((3, 4), (5, 6)))
        self.assertEqual(one.peek(0, 8), source.look(0, 8))

    def test_changes_behind_the_share_are_heard_by_each(self):
        source, one, other = self.two()
        other.ask(0, 8)
        one.share(other)
        source.put(3, 9)
        self.assertEqual(one.hear(), ((3, 4),))
        self.assertEqual(other.known(), ((0, 8),))
        self.assertEqual(other.hear(), ((3, 4),))

    def test_with_itself(self):
        source, keeper = keeper_of(room=5)
        self.assertEqual(keeper.share(keeper), ())
        keeper.ask(0, 5)
        source.put(2, 2)
        self.assertEqual(keeper.share(keeper), ())
        self.assertEqual(keeper.known(), ((0, 2), (3, 5)))

    def test_without_room(self):
        source, one, other = self.two(room=0)
        other.ask(0, 8)
        self.assertEqual(one.share(other), ((0, 8),))
        self.assertEqual(one.known(), ())
        self.assertEqual(other.known(), ((0, 8),))

    def test_with_too_little_room(self):
        source, one, other = self.two(room=5)
        one.ask(50, 52)
        one.ask(20, 22)
        other.ask(0, 4)
        self.assertEqual(one.share(other), ((0, 4),))
        self.assertEqual(one.known(), ((0, 4), (21, 22)))
        other.ask(60, 80)
        self.assertEqual(one.share(other), ((60, 80),))
        self.assertEqual(one.known(), ((75, 80),))
        self.assertEqual(size(other.known()), 24)

    def test_only_new_keys_count_as_asked_for_now(self):
        source, one, other = self.two(room=4)
        one.ask(5, 6)
        one.ask(0, 1)
        other.ask(5, 7)
        self.assertEqual(one.share(other), ((6, 7),))
        one.ask(30, 32)
        self.assertEqual(one.known(), ((0, 1), (6, 7), (30, 32)))
        one.ask(40, 41)
        self.assertEqual(one.known(), ((6, 7), (30, 32), (40, 41)))

    def test_when_the_other_asked_does_not_count(self):
        source, one, other = self.two(room=2, other_room=2)
        for again in range(5):
            other.ask(70, 71)
        other.ask(60, 61)
        one.share(other)
        one.ask(10, 11)
        self.assertEqual(one.known(), ((10, 11), (70, 71)))
        other.ask(30, 31)
        self.assertEqual(other.known(), ((30, 31), (60, 61)))


class CountedTest(unittest.TestCase):
    def compare(self, keeper, plain, first, last):
        self.assertEqual(keeper.known(), plain.known())
        self.assertEqual(keeper.peek(first, last), plain.peek(first, last))
        self.assertEqual(keeper.plan(first, last), plain.plan(first, last))

    def one_run(self, chance, most):
        rows = tuple((key, chance.randrange(10)) for key in range(most) if chance.random() < 0.5)
        steps, sources = [], WatchedSource(rows)
        made = [(chance.choice((0, 1, 5, 12, 100, 120)), chance.choice((0, 1, 2, 3, 6))) for again in range(2)]
        keepers = [Keeper(sources, room, cost) for room, cost in made]
        plains = [PlainKeeper(rows, steps, room, cost) for room, cost in made]
        for again in range(40):
            at = chance.randrange(2)
            keeper, plain = keepers[at], plains[at]
            first, last = random_stretch(chance, most)
            sources.seen, plain.seen = [], []
            action = chance.randrange(8)
            if action < 3:
                steps.append(random_step(chance, most))
                did(sources, steps[-1])
            elif action < 6:
                self.assertEqual(keeper.ask(first, last), plain.ask(first, last))
                self.assertEqual(sources.look(first, last), rows_in(stood(rows, steps), first, last))
            elif action == 6:
                many = chance.randrange(6)
                self.assertEqual(keeper.page(first, many), plain.page(first, many))
            elif chance.random() < 0.5:
                self.assertEqual(keeper.hear(), plain.hear())
            else:
                self.assertEqual(keeper.share(keepers[1 - at]), plain.share(plains[1 - at]))
            self.assertEqual(sources.seen, plain.seen)
            for one, other in zip(keepers, plains):
                self.compare(one, other, first, last)
                self.assertLessEqual(size(one.known()), other.room)

    def test_runs_of_all_methods(self):
        chance = random.Random(41)
        for again in range(60):
            self.one_run(chance, 20)
        for again in range(10):
            self.one_run(chance, 100)


class ValuesTest(unittest.TestCase):
    def test_what_only_looks_changes_nothing(self):
        source, keeper = keeper_of(room=10, cost=2)
        keeper.ask(0, 10)
        keeper.ask(12, 14)
        source.put(5, 5)
        first = all_told(keeper)
        self.assertEqual(all_told(keeper), first)
        self.assertEqual(source.told(), (2, 12))
        self.assertEqual(keeper.hear(), ((5, 6),))

    def test_asked_the_same_again_the_same_is_told(self):
        for room in (0, 5, 100):
            source, keeper = keeper_of(room=room)
            for first, last in ((0, 10), (5, 100), (60, 62)):
                self.assertEqual(keeper.ask(first, last), keeper.ask(first, last))
            self.assertEqual(keeper.page(2, 3), keeper.page(2, 3))

    def test_the_source_is_not_changed_but_for_what_it_was_asked(self):
        source, keeper = keeper_of()
        source.put(3, 3)
        keeper.ask(0, 50)
        keeper.page(0, 100)
        keeper.hear()
        keeper.share(keeper)
        self.assertEqual(source.clock(), 1)
        self.assertEqual(source.look(0, 100), rows_in(stood(ROWS, [("put", 3, 3)]), 0, 100))

    def test_kinds_told(self):
        source, keeper = keeper_of(room=50, cost=2)
        other = Keeper(source, 9, 0)
        other.ask(70, 75)
        told = [keeper.known(), keeper.ask(0, 30), keeper.ask(1, 2), keeper.peek(0, 20), keeper.plan(0, 60)]
        told += [keeper.page(0, 3), keeper.page(0, 0), keeper.page(0, 90)]
        source.put(3, 3)
        told += [keeper.hear(), keeper.hear(), keeper.share(other), keeper.known()]
        for thing in told:
            self.assertIs(type(thing), tuple)
            self.assertTrue(kinds_told(thing))
        for thing in (keeper.known(), keeper.plan(0, 100), other.share(keeper)):
            self.assertTrue(is_spread(thing))
        self.assertIs(type(keeper.page(0, 3)[0]), tuple)

    def test_what_was_told_stays_as_it_was(self):
        source, keeper = keeper_of()
        told, known = keeper.ask(0, 10), keeper.known()
        source.put(3, 9)
        keeper.ask(0, 20)
        self.assertEqual(told, ((0, 1), (3, 0), (7, 7)))
        self.assertEqual(known, ((0, 10),))

    def test_no_error_somewhat_beyond_the_limits(self):
        source, keeper = keeper_of(room=-1, cost=-1)
        self.assertEqual(keeper.ask(0, 10), source.look(0, 10))
        self.assertEqual(keeper.known(), ())
        source, keeper = keeper_of()
        self.assertEqual(keeper.ask(-2, 103), source.look(-2, 103))
        self.assertEqual(keeper.ask(5, 5), ())
        self.assertEqual(keeper.ask(6, 5), ())
        self.assertEqual(keeper.page(0, -1), ((), 0))
        self.assertEqual(keeper.page(100, 0), ((), None))
        self.assertEqual(keeper.page(100, 1), ((), None))
        self.assertEqual(keeper.page(0, 1000), (source.look(0, 100), None))
        self.assertEqual(len(keys_of(keeper.known())), 105)
