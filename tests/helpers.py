"""What several tests need: small spreads, sources and their changes, counts key by key, and the kinds told."""

import itertools

from keptranges.sources import Source


def sets_below(many):
    """All sets of keys below many."""
    return [
        {key for key in range(many) if bits >> key & 1}
        for bits in range(1 << many)
    ]


def plain_spread(keys):
    """The spread of a set of keys, counted run by run, without the program."""
    runs = []
    for key in range(-10, 120):
        if key in keys and key - 1 not in keys:
            runs.append([key, key + 1])
        elif key in keys:
            runs[-1][1] = key + 1
    return tuple((first, last) for first, last in runs)


def plain_keys(stretches):
    return {key for first, last in stretches for key in range(first, last)}


def spreads_below(many):
    return [plain_spread(keys) for keys in sets_below(many)]


def gap_choices(spread):
    """The spreads that come of asking for any choice of the gaps, too."""
    gaps = [(ahead[1], behind[0]) for ahead, behind in zip(spread, spread[1:])]
    for many in range(len(gaps) + 1):
        for chosen in itertools.combinations(gaps, many):
            yield plain_spread(plain_keys(spread) | plain_keys(chosen))


def kinds_told(thing):
    """Whether a thing is made of just the kinds that may be told."""
    if type(thing) is tuple:
        return all(kinds_told(part) for part in thing)
    return thing is None or type(thing) in (int, bool, str)


def did(source, step):
    """Does one step, and tells what the method told."""
    if step[0] == "put":
        return source.put(step[1], step[2])
    return source.drop(step[1])


def stood(rows, steps):
    """The worths by keys behind some steps, counted without the program."""
    worths = dict(rows)
    for step in steps:
        if step[0] == "put":
            worths[step[1]] = step[2]
        elif step[1] in worths:
            del worths[step[1]]
    return worths


def rows_in(worths, first, last):
    return tuple((key, worths[key]) for key in sorted(worths) if first <= key < last)


class WatchedSource(Source):
    """A source that tells which stretches it was asked for, in order."""

    def __init__(self, rows):
        super().__init__(rows)
        self.seen = []

    def ask(self, first, last):
        self.seen.append((first, last))
        return super().ask(first, last)


def asked_for(source, action):
    """What the source was asked for by an action, in order."""
    before = len(source.seen)
    action()
    return tuple(source.seen[before:])


def random_step(chance, most):
    """A change of some key below most, often one that changes nothing."""
    if chance.random() < 0.4:
        return ("drop", chance.randrange(most))
    return ("put", chance.randrange(most), chance.choice((0, 1, 9)))


def random_stretch(chance, most):
    first = chance.randrange(most)
    return first, chance.randrange(first + 1, most + 1)


def all_stretches(most):
    return list(itertools.combinations(range(most + 1), 2))
