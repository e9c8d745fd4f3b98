"""Spreads as texts."""

from keptranges.errors import NoText
from keptranges.spreads import END, is_spread


def written(spread):
    return ",".join(f"{first}-{last}" for first, last in spread)


def number_in(text):
    # Python's int would also take blanks, signs and noughts ahead.
    numbers = {str(number): number for number in range(END + 1)}
    return numbers.get(text)


def stretch_in(text):
    first, dash, last = text.partition("-")
    return (number_in(first), number_in(last))


def read(text):
    # The empty text splits into one empty stretch, though it is the text of no stretch.
    if text == "":
        return ()
    spread = tuple(stretch_in(part) for part in text.split(","))
    if not is_spread(spread):
        raise NoText(f"no spread is written {text}")
    return spread
