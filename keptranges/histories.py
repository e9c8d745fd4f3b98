"""Answers held against what stood when."""

from keptranges.errors import NoClock


def holds_from(source, clock, first, last):
    rows = source.look_at(clock, first, last)
    least = clock
    while least > 0 and source.look_at(least - 1, first, last) == rows:
        least -= 1
    return least


def holds_to(source, clock, first, last):
    rows = source.look_at(clock, first, last)
    for later in range(clock + 1, source.clock() + 1):
        if source.look_at(later, first, last) != rows:
            return later - 1
    return None


def clocks_of(source, first, last, rows):
    return together(source, ((first, last, rows),))


def stood_at(source, clock, answers):
    return all(source.look_at(clock, first, last) == rows for first, last, rows in answers)


def together(source, answers):
    return tuple(clock for clock in range(source.clock() + 1) if stood_at(source, clock, answers))


def lately(source, answers):
    clocks = together(source, answers)
    if not clocks:
        raise NoClock("there was no clock at which all answers stood")
    return clocks[-1]
