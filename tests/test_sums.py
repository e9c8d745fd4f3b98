import inspect
import itertools
import random
import unittest

from keptranges.sources import Source
from keptranges.sums import Summer
from tests.helpers import (
    WatchedSource, all_stretches, asked_for, did, kinds_told, random_step, random_stretch, stood,
)

ROWS = ((40, 4), (3, 0), (99, 9), (0, 1), (41, 5), (7, 7), (12, 2), (13, 3))


def sum_in(worths, first, last):
    return sum(worth for key, worth in worths.items() if first <= key < last)


def linked(stretches, first, last):
    """Whether stretches lead from first to last, by putting together the places that they link."""
    groups = {place: place for place in range(101)}
    for start, end in stretches:
        gone, stays = groups[start], groups[end]
        groups = {place: stays if group == gone else group for place, group in groups.items()}
    return groups[first] == groups[last]


class PlainSummer:
    """A summer with its own list of changes, that counts every sum anew."""

    def __init__(self, rows, steps):
        self.rows = rows
        self.steps = steps
        self.heard = len(steps)
        self.kept = []
        self.seen = []

    def worths(self):
        return stood(self.rows, self.steps[:self.heard])

    def sums(self):
        return tuple((first, last, sum_in(self.worths(), first, last)) for first, last in sorted(self.kept))

    def hear(self):
        changed = {step[1] for step in self.steps[self.heard:]}
        self.heard = len(self.steps)
        still = [(first, last) for first, last in self.kept if not changed & set(range(first, last))]
        gone = len(self.kept) - len(still)
        self.kept = still
        return gone

    def follows(self, first, last):
        return sum_in(self.worths(), first, last) if linked(self.kept, first, last) else None

    def ask(self, first, last):
        self.hear()
        if not linked(self.kept, first, last):
            self.seen.append((first, last))
            self.kept.append((first, last))
        return sum_in(self.worths(), first, last)


def summer_of(rows=ROWS, stretches=()):
    source = WatchedSource(rows)
    summer = Summer(source)
    for first, last in stretches:
        summer.ask(first, last)
    return source, summer


def all_told(summer):
    """Everything that can be asked of a summer without a change of it."""
    return (summer.sums(), summer.asked(), [summer.follows(first, last) for first, last in all_stretches(15)])


class InterfaceTest(unittest.TestCase):
    def test_each_method_is_defined_in_the_class_itself(self):
        listed = {"__init__": 1, "sums": 0, "asked": 0, "hear": 0, "follows": 2, "ask": 2}
        for name, many in listed.items():
            self.assertIn(name, vars(Summer))
            parameters = inspect.signature(vars(Summer)[name]).parameters
            self.assertEqual(len(parameters), many + 1, name)


class NewSummerTest(unittest.TestCase):
    def test_keeps_nothing(self):
        source, summer = summer_of()
        self.assertEqual(summer.sums(), ())
        self.assertEqual(summer.asked(), 0)
        self.assertEqual(summer.hear(), 0)
        self.assertIsNone(summer.follows(0, 1))
        self.assertIsNone(summer.follows(0, 100))
        self.assertEqual(source.told(), (0, 0))

    def test_made_behind_changes(self):
        source = Source(ROWS)
        source.put(3, 9)
        summer = Summer(source)
        self.assertEqual(summer.ask(0, 8), 17)
        self.assertEqual(summer.hear(), 0)
        self.assertEqual(summer.sums(), ((0, 8, 17),))


class SumsTest(unittest.TestCase):
    def test_rising(self):
        source, summer = summer_of(stretches=((12, 14), (0, 8), (0, 4), (40, 42), (7, 9)))
        self.assertEqual(summer.sums(), ((0, 4, 1), (0, 8, 8), (7, 9, 7), (12, 14, 5), (40, 42, 9)))

    def test_only_what_was_asked_for_is_kept(self):
        source, summer = summer_of(stretches=((0, 8), (8, 14)))
        self.assertEqual(summer.ask(0, 14), 13)
        self.assertEqual(summer.sums(), ((0, 8, 8), (8, 14, 5)))

    def test_asked_counts_asks_of_the_source(self):
        source, summer = summer_of(stretches=((0, 8), (8, 14)))
        self.assertEqual(summer.asked(), 2)
        summer.ask(0, 14)
        summer.ask(0, 8)
        summer.follows(0, 50)
        self.assertEqual(summer.asked(), 2)
        summer.ask(0, 50)
        self.assertEqual(summer.asked(), 3)
        self.assertEqual(source.told(), (3, 64))

    def test_asks_of_others_do_not_count(self):
        source, summer = summer_of()
        source.ask(0, 5)
        Summer(source).ask(0, 5)
        self.assertEqual(summer.asked(), 0)
        self.assertEqual(summer.sums(), ())


class FollowsTest(unittest.TestCase):
    def check(self, stretches, first, last):
        source, summer = summer_of(stretches=stretches)
        self.assertEqual(summer.follows(first, last), sum_in(dict(ROWS), first, last))
        self.assertEqual(asked_for(source, lambda: summer.ask(first, last)), ())
        self.assertEqual(summer.ask(first, last), sum_in(dict(ROWS), first, last))

    def check_none(self, stretches, first, last):
        source, summer = summer_of(stretches=stretches)
        self.assertIsNone(summer.follows(first, last))
        self.assertEqual(asked_for(source, lambda: summer.ask(first, last)), ((first, last),))
        self.assertEqual(summer.follows(first, last), sum_in(dict(ROWS), first, last))

    def test_one_kept_sum(self):
        self.check(((3, 9),), 3, 9)

    def test_two_side_by_side(self):
        self.check(((0, 8), (8, 14)), 0, 14)
        self.check(((8, 14), (0, 8)), 0, 14)

    def test_one_taken_away_with_the_same_first(self):
        self.check(((0, 14), (0, 8)), 8, 14)

    def test_one_taken_away_with_the_same_last(self):
        self.check(((0, 14), (8, 14)), 0, 8)

    def test_several(self):
        self.check(((0, 4), (4, 8), (8, 13), (13, 50), (50, 100)), 0, 100)
        self.check(((0, 4), (4, 8), (8, 13), (13, 50), (50, 100)), 4, 50)

    def test_back_and_forth(self):
        self.check(((3, 20), (10, 20), (10, 45)), 3, 45)
        self.check(((5, 9), (2, 9), (2, 14), (12, 14), (12, 42)), 5, 42)
        self.check(((0, 100), (0, 3), (8, 100)), 3, 8)
        self.check(((0, 100), (0, 12), (5, 12), (5, 90), (80, 90)), 80, 100)

    def test_through_places_outside_of_the_stretch(self):
        self.check(((0, 7), (0, 13)), 7, 13)
        self.check(((7, 100), (13, 100)), 7, 13)

    def test_none(self):
        self.check_none((), 0, 1)
        self.check_none(((0, 8),), 0, 7)
        self.check_none(((0, 8),), 1, 8)
        self.check_none(((0, 8),), 0, 9)
        self.check_none(((0, 8), (9, 14)), 0, 14)
        self.check_none(((0, 8), (7, 14)), 0, 14)
        self.check_none(((0, 14), (3, 8)), 0, 3)
        self.check_none(((0, 14), (3, 8), (20, 30)), 8, 14)

    def test_a_sum_of_0_is_not_none(self):
        source, summer = summer_of(stretches=((20, 30), (3, 4)))
        self.assertEqual(summer.follows(20, 30), 0)
        self.assertEqual(summer.follows(3, 4), 0)
        self.assertEqual(asked_for(source, lambda: summer.ask(20, 30)), ())

    def test_all_choices_of_small_stretches(self):
        stretches = all_stretches(5)
        rows = ((0, 1), (1, 2), (2, 4), (3, 8), (4, 9))
        for chosen in itertools.combinations(stretches, 3):
            source, summer = summer_of(rows, chosen)
            kept = [(first, last) for first, last, total in summer.sums()]
            for first, last in stretches:
                wanted = sum_in(dict(rows), first, last) if linked(chosen, first, last) else None
                self.assertEqual(summer.follows(first, last), wanted, (chosen, first, last))
                self.assertEqual(linked(kept, first, last), linked(chosen, first, last))

    def test_a_long_lead(self):
        source, summer = summer_of()
        for key in sorted(range(100), key=lambda key: key * 37 // 3):
            summer.ask(key, key + 1)
        for first, last in all_stretches(100)[::7]:
            self.assertEqual(summer.follows(first, last), sum_in(dict(ROWS), first, last))
        self.assertEqual(summer.asked(), 100)

    def test_does_not_hear(self):
        source, summer = summer_of(stretches=((0, 8), (8, 14)))
        source.put(3, 9)
        self.assertEqual(summer.follows(0, 14), 13)
        self.assertEqual(summer.sums(), ((0, 8, 8), (8, 14, 5)))
        self.assertEqual(summer.ask(0, 14), 22)


class HearTest(unittest.TestCase):
    def test_at_the_ends_just_inside_and_just_outside(self):
        for key, gone in ((2, 0), (3, 1), (4, 1), (7, 1), (8, 1), (9, 0), (0, 0), (99, 0)):
            source, summer = summer_of(stretches=((3, 9),))
            source.put(key, 5)
            self.assertEqual(summer.hear(), gone, key)
            self.assertEqual(summer.sums(), () if gone else ((3, 9, 7),))

    def test_how_many(self):
        stretches = ((0, 8), (0, 4), (7, 14), (40, 42), (20, 30))
        source, summer = summer_of(stretches=stretches)
        source.drop(7)
        self.assertEqual(summer.hear(), 2)
        self.assertEqual(summer.sums(), ((0, 4, 1), (20, 30, 0), (40, 42, 9)))
        source.put(0, 2)
        source.put(25, 2)
        source.put(26, 2)
        source.put(60, 2)
        self.assertEqual(summer.hear(), 2)
        self.assertEqual(summer.sums(), ((40, 42, 9),))

    def test_heard_twice(self):
        source, summer = summer_of(stretches=((0, 8),))
        source.put(3, 9)
        self.assertEqual(summer.hear(), 1)
        self.assertEqual(summer.hear(), 0)
        summer.ask(0, 8)
        self.assertEqual(summer.hear(), 0)
        self.assertEqual(summer.sums(), ((0, 8, 17),))

    def test_a_change_of_nothing_is_a_change(self):
        source, summer = summer_of(stretches=((0, 8), (12, 14), (20, 30)))
        source.put(7, 7)
        source.drop(25)
        self.assertEqual(summer.hear(), 2)
        self.assertEqual(summer.sums(), ((12, 14, 5),))

    def test_the_first_and_the_last_key(self):
        source, summer = summer_of(stretches=((0, 1), (99, 100), (1, 99)))
        source.put(0, 5)
        source.put(99, 5)
        self.assertEqual(summer.hear(), 2)
        self.assertEqual(summer.sums(), ((1, 99, 21),))

    def test_does_not_ask(self):
        source, summer = summer_of(stretches=((0, 8),))
        source.put(3, 9)
        self.assertEqual(asked_for(source, summer.hear), ())
        self.assertEqual(summer.asked(), 1)


class AskTest(unittest.TestCase):
    def test_every_small_stretch_of_the_source(self):
        for first, last in all_stretches(15):
            source, summer = summer_of()
            self.assertEqual(summer.ask(first, last), sum_in(dict(ROWS), first, last))
            self.assertEqual(summer.sums(), ((first, last, sum_in(dict(ROWS), first, last)),))

    def test_keys_without_a_row_have_no_worth(self):
        source, summer = summer_of(rows=())
        self.assertEqual(summer.ask(0, 100), 0)
        source.put(50, 4)
        self.assertEqual(summer.ask(0, 100), 4)
        source.drop(50)
        self.assertEqual(summer.ask(0, 100), 0)
        self.assertEqual(summer.asked(), 3)

    def test_asks_just_if_the_sum_does_not_follow(self):
        source, summer = summer_of()
        for first, last, asked in ((0, 8, 1), (0, 8, 0), (8, 14, 1), (0, 14, 0), (0, 4, 1), (4, 8, 0), (4, 14, 0)):
            wanted = ((first, last),) if asked else ()
            self.assertEqual(asked_for(source, lambda: summer.ask(first, last)), wanted)

    def test_it_hears(self):
        source, summer = summer_of(stretches=((0, 8), (8, 14)))
        source.put(3, 9)
        self.assertEqual(asked_for(source, lambda: summer.ask(0, 14)), ((0, 14),))
        self.assertEqual(summer.sums(), ((0, 14, 22), (8, 14, 5)))
        self.assertEqual(asked_for(source, lambda: summer.ask(0, 8)), ())
        self.assertEqual(summer.ask(0, 8), 17)

    def test_a_change_outside_lets_a_sum_follow(self):
        source, summer = summer_of(stretches=((0, 8), (8, 14)))
        source.put(14, 9)
        self.assertEqual(asked_for(source, lambda: summer.ask(0, 14)), ())

    def test_two_summers_do_not_touch_one_another(self):
        source = WatchedSource(ROWS)
        one, other = Summer(source), Summer(source)
        one.ask(0, 8)
        self.assertEqual(other.sums(), ())
        self.assertIsNone(other.follows(0, 8))
        source.put(3, 9)
        other.hear()
        self.assertEqual(one.hear(), 1)


class CountedTest(unittest.TestCase):
    def one_run(self, chance, most):
        rows = tuple((key, chance.randrange(10)) for key in range(most) if chance.random() < 0.5)
        steps, source = [], WatchedSource(rows)
        summer, plain = Summer(source), PlainSummer(rows, steps)
        for again in range(40):
            first, last = random_stretch(chance, most)
            action = chance.randrange(8)
            if action < 2:
                steps.append(random_step(chance, most))
                did(source, steps[-1])
            elif action == 2:
                self.assertEqual(summer.hear(), plain.hear())
            else:
                self.assertEqual(summer.ask(first, last), plain.ask(first, last))
            self.assertEqual(source.seen, plain.seen)
            self.assertEqual(summer.asked(), len(plain.seen))
            self.assertEqual(summer.sums(), plain.sums())
            first, last = random_stretch(chance, most)
            self.assertEqual(summer.follows(first, last), plain.follows(first, last))

    def test_runs_of_all_methods(self):
        chance = random.Random(43)
        for again in range(60):
            self.one_run(chance, 10)
        for again in range(5):
            self.one_run(chance, 100)


class ValuesTest(unittest.TestCase):
    def test_what_only_looks_changes_nothing(self):
        source, summer = summer_of(stretches=((0, 8), (8, 14), (5, 14)))
        source.put(3, 9)
        before = all_told(summer)
        self.assertEqual(all_told(summer), before)
        self.assertEqual(source.told(), (3, 23))
        self.assertEqual(summer.hear(), 1)

    def test_the_source_is_not_changed_but_for_what_it_was_asked(self):
        source, summer = summer_of(stretches=((0, 8), (8, 14)))
        self.assertEqual(source.clock(), 0)
        self.assertEqual(source.look(0, 100), tuple(sorted(ROWS)))

    def test_kinds_told(self):
        source, summer = summer_of(stretches=((8, 14), (0, 8)))
        self.assertIs(type(summer.sums()), tuple)
        self.assertTrue(kinds_told(summer.sums()))
        for told in (summer.asked(), summer.hear(), summer.follows(0, 14), summer.ask(0, 99)):
            self.assertIs(type(told), int)

    def test_what_was_told_stays_as_it_was(self):
        source, summer = summer_of(stretches=((0, 8),))
        told = summer.sums()
        summer.ask(3, 5)
        self.assertEqual(told, ((0, 8, 8),))

    def test_no_error_somewhat_beyond_the_limits(self):
        source, summer = summer_of()
        self.assertEqual(summer.ask(-2, 103), 31)
        self.assertEqual(summer.ask(5, 5), 0)
        self.assertEqual(summer.ask(8, 5), 0)
        self.assertEqual(summer.ask(5, 8), 7)
