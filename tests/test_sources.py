import inspect
import itertools
import unittest

from keptranges.errors import NoClock, RangeError
from keptranges.sources import Source
from tests.helpers import did, kinds_told, plain_spread, rows_in, stood

ROWS = ((40, 4), (3, 0), (99, 9), (0, 1), (41, 5))
STEPS = (
    ("put", 3, 7), ("put", 3, 7), ("put", 50, 2), ("drop", 40), ("drop", 40), ("drop", 60),
    ("put", 3, 0), ("put", 40, 4), ("drop", 0), ("put", 99, 0), ("put", 51, 1), ("drop", 51), ("put", 0, 0),
)


def made(rows=ROWS, steps=STEPS):
    source = Source(rows)
    for step in steps:
        did(source, step)
    return source


def all_told(source):
    """Everything that can be asked of a source without a change of it."""
    clocks = range(source.clock() + 1)
    return (
        source.clock(), source.told(), source.look(0, 100),
        [source.look_at(clock, 0, 100) for clock in clocks],
        [source.changes_since(clock) for clock in clocks],
        [source.unlike_since(clock) for clock in clocks],
    )


class InterfaceTest(unittest.TestCase):
    def test_each_method_is_defined_in_the_class_itself(self):
        listed = {
            "clock": 0, "put": 2, "drop": 1, "look": 2, "look_at": 3, "ask": 2, "told": 0,
            "changes_since": 1, "unlike_since": 1,
        }
        for name, many in listed.items():
            self.assertIn(name, vars(Source))
            parameters = inspect.signature(vars(Source)[name]).parameters
            self.assertEqual(len(parameters), many + 1, name)


class RowsTest(unittest.TestCase):
    def test_rows_in_any_order(self):
        rising = tuple(sorted(ROWS))
        for order in itertools.permutations(ROWS):
            self.assertEqual(Source(order).look(0, 100), rising)

    def test_no_rows(self):
        source = Source(())
        self.assertEqual(source.look(0, 100), ())
        self.assertEqual(source.clock(), 0)
        self.assertEqual(source.told(), (0, 0))

    def test_look_at_the_edges_of_a_stretch(self):
        source = Source(ROWS)
        self.assertEqual(source.look(0, 1), ((0, 1),))
        self.assertEqual(source.look(1, 3), ())
        self.assertEqual(source.look(3, 40), ((3, 0),))
        self.assertEqual(source.look(40, 42), ((40, 4), (41, 5)))
        self.assertEqual(source.look(99, 100), ((99, 9),))

    def test_look_of_every_stretch(self):
        source = Source(ROWS)
        for first in range(100):
            for last in range(first + 1, 101):
                self.assertEqual(source.look(first, last), rows_in(dict(ROWS), first, last))


class ChangesTest(unittest.TestCase):
    def test_put_and_drop(self):
        source = Source(ROWS)
        source.put(3, 8)
        source.put(4, 0)
        source.drop(40)
        self.assertEqual(source.look(0, 100), ((0, 1), (3, 8), (4, 0), (41, 5), (99, 9)))

    def test_every_change_counts_also_if_nothing_is_other(self):
        source = Source(ROWS)
        for many, step in enumerate((("put", 3, 0), ("drop", 7), ("put", 3, 1), ("drop", 3), ("drop", 3)), 1):
            did(source, step)
            self.assertEqual(source.clock(), many)

    def test_none_is_told_of_changes(self):
        source = Source(ROWS)
        for step in STEPS:
            self.assertIsNone(did(source, step))

    def test_looks_and_asks_are_no_changes(self):
        source = made()
        source.look(0, 100)
        source.look_at(0, 0, 100)
        source.ask(0, 100)
        self.assertEqual(source.clock(), len(STEPS))

    def test_look_at_every_clock_so_far(self):
        source = Source(ROWS)
        for many in range(len(STEPS) + 1):
            for clock in range(many + 1):
                worths = stood(ROWS, STEPS[:clock])
                for first, last in ((0, 100), (0, 1), (3, 41), (50, 52), (99, 100)):
                    self.assertEqual(source.look_at(clock, first, last), rows_in(worths, first, last))
            self.assertEqual(source.look(0, 100), source.look_at(many, 0, 100))
            if many < len(STEPS):
                did(source, STEPS[many])


class AskedTest(unittest.TestCase):
    def test_ask_is_as_look(self):
        source = made()
        for first, last in ((0, 100), (0, 1), (3, 41), (50, 52), (99, 100)):
            self.assertEqual(source.ask(first, last), source.look(first, last))

    def test_asks_and_keys_are_counted(self):
        source = Source(ROWS)
        source.ask(0, 100)
        self.assertEqual(source.told(), (1, 100))
        source.ask(5, 6)
        self.assertEqual(source.told(), (2, 101))
        source.ask(5, 8)
        source.ask(5, 8)
        self.assertEqual(source.told(), (4, 107))

    def test_nothing_else_is_counted(self):
        source = made()
        all_told(source)
        self.assertEqual(source.told(), (0, 0))
        source.ask(1, 3)
        source.put(1, 1)
        source.drop(1)
        all_told(source)
        self.assertEqual(source.told(), (1, 2))


class SinceTest(unittest.TestCase):
    def test_changes_since_every_clock(self):
        source = Source(ROWS)
        for many in range(len(STEPS) + 1):
            for clock in range(many + 1):
                wanted = plain_spread({step[1] for step in STEPS[clock:many]})
                self.assertEqual(source.changes_since(clock), wanted)
            if many < len(STEPS):
                did(source, STEPS[many])

    def test_unlike_since_every_clock(self):
        source = Source(ROWS)
        for many in range(len(STEPS) + 1):
            now = stood(ROWS, STEPS[:many])
            for clock in range(many + 1):
                then = stood(ROWS, STEPS[:clock])
                unlike = {key for key in range(100) if then.get(key) != now.get(key)}
                self.assertEqual(source.unlike_since(clock), plain_spread(unlike))
            if many < len(STEPS):
                did(source, STEPS[many])

    def test_nothing_since_the_present_clock(self):
        source = made()
        self.assertEqual(source.changes_since(len(STEPS)), ())
        self.assertEqual(source.unlike_since(len(STEPS)), ())

    def test_there_and_back(self):
        source = Source(((5, 5),))
        source.put(5, 6)
        source.put(6, 0)
        self.assertEqual(source.unlike_since(0), ((5, 7),))
        source.put(5, 5)
        source.drop(6)
        self.assertEqual(source.changes_since(0), ((5, 7),))
        self.assertEqual(source.unlike_since(0), ())
        self.assertEqual(source.unlike_since(2), ((5, 7),))

    def test_a_worth_of_0_is_not_like_no_row(self):
        source = Source(())
        source.put(7, 0)
        self.assertEqual(source.unlike_since(0), ((7, 8),))
        source.drop(7)
        self.assertEqual(source.unlike_since(1), ((7, 8),))
        self.assertEqual(source.unlike_since(0), ())

    def test_a_change_of_nothing_is_a_change_but_not_unlike(self):
        source = Source(((5, 5),))
        source.put(5, 5)
        source.drop(9)
        self.assertEqual(source.changes_since(0), ((5, 6), (9, 10)))
        self.assertEqual(source.unlike_since(0), ())


class NoClockTest(unittest.TestCase):
    def refusals(self, source, clock):
        return (
            lambda: source.look_at(clock, 0, 100),
            lambda: source.changes_since(clock),
            lambda: source.unlike_since(clock),
        )

    def check(self, source, clock):
        before = all_told(source)
        for refused in self.refusals(source, clock):
            with self.assertRaises(NoClock):
                refused()
        self.assertEqual(all_told(source), before)

    def test_below_0_and_above_the_present_one(self):
        source = Source(ROWS)
        for step in STEPS:
            for clock in (-1, -2, -100, source.clock() + 1, source.clock() + 2, 1000):
                self.check(source, clock)
            did(source, step)

    def test_of_a_source_without_rows(self):
        for clock in (-1, 1):
            self.check(Source(()), clock)

    def test_a_clock_is_there_once_it_was_reached(self):
        source = Source(())
        self.check(source, 1)
        source.drop(0)
        for asked in self.refusals(source, 1):
            self.assertEqual(asked(), ())

    def test_truths_are_no_clocks(self):
        source = made()
        for clock in (True, False):
            self.check(source, clock)

    def test_it_is_a_range_error_and_a_value_error(self):
        with self.assertRaises(RangeError):
            Source(()).look_at(1, 0, 1)
        with self.assertRaises(ValueError):
            Source(()).changes_since(-1)


class ValuesTest(unittest.TestCase):
    def test_two_sources_of_the_same_rows(self):
        one, other = Source(ROWS), Source(ROWS)
        before = all_told(other)
        for step in STEPS:
            did(one, step)
        one.ask(0, 100)
        self.assertEqual(all_told(other), before)
        self.assertEqual(all_told(Source(ROWS)), before)

    def test_rows_handed_in_are_as_they_were(self):
        rows = tuple((key, worth) for key, worth in ROWS)
        made(rows).ask(0, 100)
        self.assertEqual(rows, ROWS)

    def test_the_same_again(self):
        source = made()
        self.assertEqual(all_told(source), all_told(source))
        self.assertEqual(source.ask(0, 100), source.ask(0, 100))

    def test_what_was_told_stays_as_it_was(self):
        source = Source(ROWS)
        told = source.look(0, 100)
        did(source, ("put", 0, 9))
        self.assertEqual(told, tuple(sorted(ROWS)))

    def test_kinds_told(self):
        source = made()
        for told in (
            source.look(0, 100), source.look_at(0, 0, 100), source.ask(0, 100), source.told(),
            source.changes_since(0), source.unlike_since(0), Source(()).look(0, 100),
        ):
            self.assertIs(type(told), tuple)
            self.assertTrue(kinds_told(told))
        self.assertIs(type(source.clock()), int)

    def test_no_error_somewhat_beyond_the_limits(self):
        source = Source(((100, 10),))
        source.put(-1, 11)
        source.put(101, -1)
        source.drop(102)
        self.assertEqual(source.look(-5, 110), ((-1, 11), (100, 10), (101, -1)))
        self.assertEqual(source.ask(5, 5), ())
        self.assertEqual(source.ask(6, 5), ())
        self.assertEqual(source.told(), (2, 0))
