"""Which stretches to ask for, so that what lacks comes at the least cost."""

from keptranges.spreads import keys_of, size, spread_of, turned_out


def lacking(spread, first, last):
    return turned_out(spread, first, last)


def gaps_of(spread):
    return [(ahead[1], behind[0]) for ahead, behind in zip(spread, spread[1:])]


def length_of(stretch):
    return stretch[1] - stretch[0]


def asks(spread, cost):
    cheap = [gap for gap in gaps_of(spread) if length_of(gap) < cost]
    return spread_of((*spread, *cheap))


def cost_of(stretches, cost):
    return cost * len(stretches) + len(keys_of(stretches))


def waste(spread, cost):
    return size(asks(spread, cost)) - size(spread)


def asks_within(spread, many):
    surplus = max(0, len(spread) - many)
    # Sorting keeps the order of gaps that are as long, so the first ones stay ahead.
    least = sorted(gaps_of(spread), key=length_of)[:surplus]
    return spread_of((*spread, *least))
