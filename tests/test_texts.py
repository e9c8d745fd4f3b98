import inspect
import itertools
import random
import re
import unittest

from keptranges import texts
from keptranges.errors import NoClock, NoText, RangeError
from keptranges.spreads import is_spread
from keptranges.texts import read, written
from tests.helpers import all_stretches, plain_spread, spreads_below

PAIRS = (
    ((), ""),
    (((0, 1),), "0-1"),
    (((0, 100),), "0-100"),
    (((99, 100),), "99-100"),
    (((9, 10),), "9-10"),
    (((0, 4), (5, 9)), "0-4,5-9"),
    (((0, 1), (2, 3), (98, 99)), "0-1,2-3,98-99"),
    (((10, 20), (30, 40), (50, 100)), "10-20,30-40,50-100"),
)
# All signs from the blank to the tilde, but the one for parts in a hundred.
SIGNS = [sign for sign in map(chr, range(32, 127)) if ord(sign) != 37]


def plain_written(spread):
    text = ""
    for first, last in spread:
        text += ("," if text else "") + str(first) + "-" + str(last)
    return text


def is_spread_text(text):
    """Whether a text is a spread's, by the form of its numbers and that all of them rise."""
    number = "(0|[1-9][0-9]?|100)"
    if text and not re.fullmatch(f"{number}-{number}(,{number}-{number})*", text):
        return False
    numbers = [int(part) for part in re.findall("[0-9]+", text)]
    return all(ahead < behind for ahead, behind in zip(numbers, numbers[1:]))


def random_spread(chance):
    return plain_spread({key for key in range(100) if chance.random() < 0.5})


class InterfaceTest(unittest.TestCase):
    def test_names_and_how_many_arguments(self):
        for name in ("written", "read"):
            self.assertEqual(len(inspect.signature(getattr(texts, name)).parameters), 1)


class ThereAndBackTest(unittest.TestCase):
    def test_none_one_and_many_stretches(self):
        for spread, text in PAIRS:
            self.assertEqual(written(spread), text)
            self.assertEqual(read(text), spread)

    def test_every_stretch(self):
        for first, last in all_stretches(100):
            text = str(first) + "-" + str(last)
            self.assertEqual(written(((first, last),)), text)
            self.assertEqual(read(text), ((first, last),))

    def test_all_small_spreads(self):
        for spread in spreads_below(10):
            self.assertEqual(written(spread), plain_written(spread))
            self.assertEqual(read(written(spread)), spread)

    def test_great_spreads(self):
        chance = random.Random(71)
        for again in range(50):
            spread = random_spread(chance)
            self.assertEqual(written(spread), plain_written(spread))
            self.assertEqual(read(written(spread)), spread)
        even = tuple((key, key + 1) for key in range(0, 100, 2))
        self.assertEqual(read(written(even)), even)

    def test_unlike_spreads_have_unlike_texts(self):
        spreads = spreads_below(8)
        self.assertEqual(len({written(spread) for spread in spreads}), len(spreads))


class NoTextTest(unittest.TestCase):
    def check(self, text):
        with self.assertRaises(NoText, msg=repr(text)) as caught:
            read(text)
        self.assertIsInstance(caught.exception, RangeError)
        self.assertNotIsInstance(caught.exception, NoClock)

    def check_either(self, text):
        """The text is a spread's, and written anew the same, or refused."""
        if is_spread_text(text):
            self.assertEqual(written(read(text)), text)
        else:
            self.check(text)

    def test_a_sign_more_anywhere(self):
        for text in ("", "0-1", "9-10", "10-99", "0-4,5-9", "3-10,12-15"):
            for at, sign in itertools.product(range(len(text) + 1), SIGNS):
                self.check_either(text[:at] + sign + text[at:])

    def test_a_sign_fewer_anywhere(self):
        for text in ("0-1", "9-10", "10-99", "10-100", "0-4,5-9", "3-10,12-15", "5-10,20-100"):
            for at in range(len(text)):
                self.check_either(text[:at] + text[at + 1:])

    def test_another_sign_anywhere(self):
        for text in ("0-1", "9-10", "10-99", "0-4,5-9", "3-10,12-15"):
            for at, sign in itertools.product(range(len(text)), SIGNS):
                self.check_either(text[:at] + sign + text[at + 1:])

    def test_all_short_texts(self):
        for many in range(5):
            for signs in itertools.product("019-,+ ", repeat=many):
                self.check_either("".join(signs))

    def test_noughts_ahead(self):
        for text in ("00-1", "0-01", "01-2", "000-100", "0-0100", "05-9", "5-09", "0-4,05-9", "0-4,5-09"):
            self.check(text)

    def test_blanks(self):
        for text in (" ", " 0-1", "0-1 ", "0 -1", "0- 1", "0-4, 5-9", "0-4 ,5-9", "   ", "1 0-20"):
            self.check(text)

    def test_signs_of_plus_and_minus(self):
        for text in (
            "+0-1", "0-+1", "-0-1", "0--1", "-1-5", "--", "-", "+", "5-+9", "-5--2", "0-1-", "1_0-20", "0-1_0",
        ):
            self.check(text)

    def test_commas(self):
        for text in (",", ",,", ",0-1", "0-1,", "0-4,,5-9", "0-4,5-9,", ",0-4,5-9", "0,1", "0-4;5-9", "0-4.5-9"):
            self.check(text)

    def test_out_of_order_in_one_another_side_by_side_and_twice(self):
        for text in (
            "5-9,0-4", "0-9,3-4", "3-4,0-9", "0-5,4-9", "0-5,5-9", "0-4,4-5,6-7", "0-4,0-4", "5-9,5-9", "0-9,8-9",
            "0-1,5-6,3-4", "0-1,2-3,3-4",
        ):
            self.check(text)

    def test_empty_stretches(self):
        for text in ("0-0", "5-5", "100-100", "6-5", "100-0", "0-4,6-6", "0-0,5-9", "9-8"):
            self.check(text)

    def test_keys_beyond_100(self):
        for text in ("0-101", "100-101", "99-101", "101-102", "0-1000", "0-4,50-101", "200-300", "0-" + "9" * 5000):
            self.check(text)

    def test_other_texts(self):
        for text in (
            "0", "5", "100", "0-", "-1", "a", "a-b", "0-b", "0-1-2", "0:1", "(0, 1)", "((0, 1),)", "()", "None",
            "0x1-5", "1e1-50", "0-1\n", "\n", "0-1.0", "0 1", "()0-1", "no spread", "0-4,a", "0-4,5", "0-4,5-", "~",
            "''",
        ):
            self.check(text)

    def test_a_refused_text_is_refused_again(self):
        for again in range(3):
            self.check("0-5,5-9")
            self.assertEqual(read("0-5,6-9"), ((0, 5), (6, 9)))


class ValuesTest(unittest.TestCase):
    def test_kinds_told(self):
        for spread, text in PAIRS:
            self.assertIs(type(written(spread)), str)
            told = read(text)
            self.assertIs(type(told), tuple)
            self.assertTrue(is_spread(told))

    def test_the_same_again(self):
        for spread, text in PAIRS:
            self.assertEqual(written(spread), written(spread))
            self.assertEqual(read(text), read(text))
