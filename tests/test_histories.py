import inspect
import itertools
import random
import unittest

from keptranges import histories
from keptranges.errors import NoClock, NoText
from keptranges.histories import clocks_of, holds_from, holds_to, lately, together
from keptranges.keepers import Keeper
from keptranges.sources import Source
from tests.helpers import all_stretches, did, kinds_told, random_step, random_stretch, rows_in, stood

ROWS = ((5, 5), (3, 0))
# There and back, and changes that change nothing.
STEPS = (
    ("put", 5, 6), ("put", 5, 6), ("put", 7, 0), ("put", 5, 5), ("drop", 9), ("drop", 7), ("drop", 3),
    ("put", 3, 0), ("put", 99, 1), ("drop", 5), ("put", 5, 5),
)
STRETCHES = ((0, 100), (5, 6), (3, 4), (7, 8), (5, 8), (0, 5), (0, 4), (9, 10), (50, 60), (99, 100), (8, 100))


def made(rows=ROWS, steps=STEPS):
    source = Source(rows)
    for step in steps:
        did(source, step)
    return source


def states_of(rows, steps, first, last):
    """The rows of a stretch at every clock, counted without the program."""
    return [rows_in(stood(rows, steps[:clock]), first, last) for clock in range(len(steps) + 1)]


def plain_holds_from(states, clock):
    return min(
        least for least in range(clock + 1)
        if all(states[between] == states[clock] for between in range(least, clock + 1))
    )


def plain_holds_to(states, clock):
    greatest = max(
        most for most in range(clock, len(states))
        if all(states[between] == states[clock] for between in range(clock, most + 1))
    )
    return None if greatest == len(states) - 1 else greatest


def all_told(source):
    clocks = range(source.clock() + 1)
    return (source.clock(), source.told(), [source.look_at(clock, 0, 100) for clock in clocks])


class InterfaceTest(unittest.TestCase):
    def test_names_and_how_many_arguments(self):
        listed = {"holds_from": 4, "holds_to": 4, "clocks_of": 4, "together": 2, "lately": 2}
        for name, many in listed.items():
            parameters = inspect.signature(getattr(histories, name)).parameters
            self.assertEqual(len(parameters), many, name)


class HoldsTest(unittest.TestCase):
    def test_there_and_back(self):
        source = made()
        told = [(holds_from(source, clock, 5, 6), holds_to(source, clock, 5, 6)) for clock in range(12)]
        self.assertEqual(told, [
            (0, 0), (1, 3), (1, 3), (1, 3), (4, 9), (4, 9), (4, 9), (4, 9), (4, 9), (4, 9), (10, 10), (11, None),
        ])

    def test_rows_that_come_and_go(self):
        source = made()
        told = [(holds_from(source, clock, 7, 8), holds_to(source, clock, 7, 8)) for clock in range(12)]
        self.assertEqual(told, [(0, 2)] * 3 + [(3, 5)] * 3 + [(6, None)] * 6)

    def test_a_stretch_that_never_changed(self):
        source = made()
        for clock in range(12):
            for first, last in ((9, 10), (50, 60), (0, 3)):
                self.assertEqual(holds_from(source, clock, first, last), 0)
                self.assertIsNone(holds_to(source, clock, first, last))

    def test_a_source_without_changes(self):
        for source in (Source(()), Source(ROWS)):
            self.assertEqual(holds_from(source, 0, 0, 100), 0)
            self.assertIsNone(holds_to(source, 0, 0, 100))

    def test_at_every_clock_so_far(self):
        for many in range(len(STEPS) + 1):
            source = made(steps=STEPS[:many])
            for first, last in STRETCHES:
                states = states_of(ROWS, STEPS[:many], first, last)
                for clock in range(many + 1):
                    self.assertEqual(holds_from(source, clock, first, last), plain_holds_from(states, clock))
                    self.assertEqual(holds_to(source, clock, first, last), plain_holds_to(states, clock))

    def test_random_changes(self):
        chance = random.Random(61)
        for again in range(40):
            steps = [random_step(chance, 6) for each in range(12)]
            source = made(ROWS, steps)
            first, last = random_stretch(chance, 6)
            states = states_of(ROWS, steps, first, last)
            for clock in range(13):
                self.assertEqual(holds_from(source, clock, first, last), plain_holds_from(states, clock))
                self.assertEqual(holds_to(source, clock, first, last), plain_holds_to(states, clock))


class NoClockTest(unittest.TestCase):
    def check(self, source, clock):
        before = all_told(source)
        for ask in (holds_from, holds_to):
            for first, last in ((0, 100), (5, 6), (50, 60)):
                with self.assertRaises(NoClock):
                    ask(source, clock, first, last)
        self.assertEqual(all_told(source), before)

    def test_below_0_and_above_the_present_one(self):
        for many in range(len(STEPS) + 1):
            source = made(steps=STEPS[:many])
            for clock in (-1, -2, -100, many + 1, many + 2, 1000):
                self.check(source, clock)

    def test_truths_are_no_clocks(self):
        for clock in (True, False):
            self.check(made(), clock)


class ClocksOfTest(unittest.TestCase):
    def test_rows_that_stood_at_no_one_and_several_clocks(self):
        source = made()
        self.assertEqual(clocks_of(source, 5, 6, ((5, 5),)), (0, 4, 5, 6, 7, 8, 9, 11))
        self.assertEqual(clocks_of(source, 5, 6, ((5, 6),)), (1, 2, 3))
        self.assertEqual(clocks_of(source, 5, 6, ()), (10,))
        self.assertEqual(clocks_of(source, 5, 6, ((5, 7),)), ())
        self.assertEqual(clocks_of(source, 7, 8, ((7, 0),)), (3, 4, 5))
        self.assertEqual(clocks_of(source, 50, 60, ()), tuple(range(12)))

    def test_rows_beyond_or_short_of_the_stretch(self):
        source = made()
        self.assertEqual(clocks_of(source, 5, 6, ((3, 0), (5, 5))), ())
        self.assertEqual(clocks_of(source, 0, 6, ((5, 5),)), (7,))
        self.assertEqual(clocks_of(source, 0, 6, ((3, 0), (5, 5))), (0, 4, 5, 6, 8, 9, 11))

    def test_of_a_source_without_changes(self):
        self.assertEqual(clocks_of(Source(ROWS), 0, 100, ((3, 0), (5, 5))), (0,))
        self.assertEqual(clocks_of(Source(ROWS), 0, 100, ()), ())
        self.assertEqual(clocks_of(Source(()), 0, 100, ()), (0,))

    def test_every_answer_that_was_true_once(self):
        source = made()
        for first, last in STRETCHES:
            states = states_of(ROWS, STEPS, first, last)
            for rows in states:
                wanted = tuple(clock for clock, state in enumerate(states) if state == rows)
                self.assertEqual(clocks_of(source, first, last, rows), wanted)


class TogetherTest(unittest.TestCase):
    def test_of_no_answer(self):
        self.assertEqual(together(made(), ()), tuple(range(12)))
        self.assertEqual(together(Source(()), ()), (0,))

    def test_of_one(self):
        source = made()
        for first, last in STRETCHES:
            for clock in range(12):
                rows = source.look_at(clock, first, last)
                self.assertEqual(together(source, ((first, last, rows),)), clocks_of(source, first, last, rows))

    def test_of_several(self):
        source = made()
        self.assertEqual(together(source, ((5, 6, ((5, 6),)), (7, 8, ()))), (1, 2))
        self.assertEqual(together(source, ((5, 6, ((5, 5),)), (7, 8, ()), (3, 4, ((3, 0),)))), (0, 6, 8, 9, 11))
        self.assertEqual(together(source, ((5, 6, ((5, 5),)), (5, 6, ((5, 5),)))), (0, 4, 5, 6, 7, 8, 9, 11))

    def test_of_unlike_clocks(self):
        source = made()
        self.assertEqual(together(source, ((5, 6, ((5, 6),)), (99, 100, ((99, 1),)))), ())
        self.assertEqual(together(source, ((5, 6, ((5, 5),)), (5, 6, ((5, 6),)))), ())
        self.assertEqual(together(source, ((5, 6, ((5, 9),)), (50, 60, ()))), ())
        self.assertEqual(together(source, ((50, 60, ()), (5, 6, ((5, 9),)))), ())

    def test_just_the_clocks_in_clocks_of_each(self):
        source = made()
        answers = [
            (first, last, source.look_at(clock, first, last))
            for first, last in ((5, 6), (7, 8), (0, 4), (0, 100)) for clock in (0, 3, 7, 10)
        ]
        for some in itertools.product(answers, repeat=2):
            wanted = [set(clocks_of(source, first, last, rows)) for first, last, rows in some]
            self.assertEqual(together(source, some), tuple(sorted(wanted[0] & wanted[1])))

    def test_answers_told_at_one_clock_are_together_there(self):
        source = made(steps=())
        keeper = Keeper(source, 100, 0)
        for clock, step in enumerate(STEPS):
            answers = tuple((first, last, keeper.ask(first, last)) for first, last in STRETCHES)
            self.assertIn(clock, together(source, answers))
            self.assertEqual(lately(source, answers), clock)
            did(source, step)


class LatelyTest(unittest.TestCase):
    def test_the_greatest(self):
        source = made()
        self.assertEqual(lately(source, ()), 11)
        self.assertEqual(lately(source, ((5, 6, ((5, 5),)),)), 11)
        self.assertEqual(lately(source, ((5, 6, ((5, 6),)),)), 3)
        self.assertEqual(lately(source, ((5, 6, ((5, 6),)), (7, 8, ()))), 2)
        self.assertEqual(lately(Source(()), ()), 0)
        self.assertEqual(lately(source, ((0, 100, ((3, 0), (5, 5))),)), 8)

    def test_clock_0_is_a_clock(self):
        source = Source(ROWS)
        source.drop(5)
        self.assertEqual(lately(source, ((5, 6, ((5, 5),)),)), 0)

    def test_no_clock(self):
        source = made()
        before = all_told(source)
        for answers in (
            ((5, 6, ((5, 9),)),), ((5, 6, ((5, 5),)), (5, 6, ())), ((5, 6, ((5, 6),)), (99, 100, ((99, 1),))),
        ):
            with self.assertRaises(NoClock) as caught:
                lately(source, answers)
            self.assertNotIsInstance(caught.exception, NoText)
            self.assertEqual(together(source, answers), ())
        self.assertEqual(all_told(source), before)


class ValuesTest(unittest.TestCase):
    def asked(self, source):
        answers = ((5, 6, ((5, 6),)), (7, 8, ()))
        return (
            holds_from(source, 3, 5, 6), holds_to(source, 3, 5, 6), holds_to(source, 11, 5, 6),
            clocks_of(source, 5, 6, ((5, 5),)), clocks_of(source, 5, 6, ((9, 9),)),
            together(source, answers), together(source, ()), lately(source, answers),
        )

    def test_the_source_is_as_it_was_and_tells_the_same_again(self):
        source = made()
        source.ask(0, 5)
        before = all_told(source)
        self.assertEqual(self.asked(source), self.asked(source))
        self.assertEqual(all_told(source), before)
        self.assertEqual(source.told(), (1, 5))

    def test_kinds_told(self):
        source = made()
        self.assertTrue(kinds_told(self.asked(source)))
        for told in (holds_from(source, 3, 5, 6), holds_to(source, 3, 5, 6), lately(source, ())):
            self.assertIs(type(told), int)

    def test_no_error_somewhat_beyond_the_limits(self):
        source = made()
        for first, last in ((-2, 103), (5, 5), (6, 5)):
            self.assertEqual(holds_from(source, 0, first, last), 0)
            holds_to(source, 0, first, last)
            clocks_of(source, first, last, ())
        self.assertEqual(clocks_of(source, 0, 100, ((5, 10), (100, 0))), ())

    def test_every_small_stretch(self):
        source = made()
        for first, last in all_stretches(10):
            clocks = clocks_of(source, first, last, source.look(first, last))
            self.assertEqual(clocks[-1], 11)
            self.assertIn(holds_from(source, 11, first, last), clocks)
