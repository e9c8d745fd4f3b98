"""Stretches of keys, and spreads: the one form in which any keys are told."""

END = 100


def is_whole(thing):
    # Python counts True and False among the ints, the document does not.
    return isinstance(thing, int) and not isinstance(thing, bool)


def is_stretch(thing):
    if not isinstance(thing, tuple) or len(thing) != 2:
        return False
    first, last = thing
    return is_whole(first) and is_whole(last) and 0 <= first < last <= END


def is_spread(thing):
    if not isinstance(thing, tuple) or not all(is_stretch(part) for part in thing):
        return False
    return all(ahead[1] < behind[0] for ahead, behind in zip(thing, thing[1:]))


def spread_by(keys):
    found = []
    for key in sorted(set(keys)):
        if found and found[-1][1] == key:
            found[-1] = (found[-1][0], key + 1)
        else:
            found.append((key, key + 1))
    return tuple(found)


def spread_of(stretches):
    return spread_by(keys_of(stretches))


def has(spread, key):
    return any(first <= key < last for first, last in spread)


def size(spread):
    return len(keys_of(spread))


def keys_of(spread):
    return tuple(key for first, last in spread for key in range(first, last))


def joined(one, other):
    return spread_of(one + other)


def met(one, other):
    return spread_by(tuple(key for key in keys_of(one) if has(other, key)))


def without(one, other):
    return spread_by(tuple(key for key in keys_of(one) if not has(other, key)))


def turned_out(spread, first, last):
    return without(((first, last),), spread)


def is_within(one, other):
    return all(has(other, key) for key in keys_of(one))


def first_free(spread, long, first, last):
    for start, end in turned_out(spread, first, last):
        if end - start >= long:
            return start
    return None


def parts(spread, most):
    # Cutting no keys at a time would never end, so a lesser most counts as 1.
    step = max(1, most)
    return tuple(
        (start, min(start + step, last)) for first, last in spread for start in range(first, last, step)
    )
