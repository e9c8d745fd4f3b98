"""What several tests need: small spreads, counts key by key, and the kinds told."""

import itertools


def sets_below(many):
    """All sets of keys below many."""
    return [
        {key for key in range(many) if bits >> key & 1}
        for bits in range(1 << many)
    ]


def plain_spread(keys):
    """The spread of a set of keys, counted run by run, without the program."""
    runs = []
    for key in range(-10, 120):
        if key in keys and key - 1 not in keys:
            runs.append([key, key + 1])
        elif key in keys:
            runs[-1][1] = key + 1
    return tuple((first, last) for first, last in runs)


def plain_keys(stretches):
    return {key for first, last in stretches for key in range(first, last)}


def spreads_below(many):
    return [plain_spread(keys) for keys in sets_below(many)]


def gap_choices(spread):
    """The spreads that come of asking for any choice of the gaps, too."""
    gaps = [(ahead[1], behind[0]) for ahead, behind in zip(spread, spread[1:])]
    for many in range(len(gaps) + 1):
        for chosen in itertools.combinations(gaps, many):
            yield plain_spread(plain_keys(spread) | plain_keys(chosen))


def kinds_told(thing):
    """Whether a thing is made of just the kinds that may be told."""
    if type(thing) is tuple:
        return all(kinds_told(part) for part in thing)
    return thing is None or type(thing) in (int, bool, str)
