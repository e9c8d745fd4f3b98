"""Keepers: they keep what a source told, within their room, and ask it just for what lacks."""

from keptranges.asking import asks, lacking
from keptranges.spreads import END, is_within, keys_of, met, spread_by, without

PAGE_STEP = 8


def key_behind(rows, first):
    following = rows[-1][0] + 1 if rows else first
    return following if following < END else None


class Keeper:
    """Worths by keys as the source told them, and which of its asks was the last for each key."""

    def __init__(self, source, room, cost):
        self.source = source
        self.room = room
        self.cost = cost
        self.heard_clock = source.clock()
        # That a key has no row is kept, too: its worth is None.
        self.worths = {}
        self.stamps = {}
        self.stamp = 0

    def known(self):
        return spread_by(tuple(self.worths))

    def hear(self):
        changed = self.source.changes_since(self.heard_clock)
        self.heard_clock = self.source.clock()
        gone = met(self.known(), changed)
        self.forget(keys_of(gone))
        return gone

    def peek(self, first, last):
        if not is_within(((first, last),), self.known()):
            return None
        return tuple((key, self.worths[key]) for key in range(first, last) if self.worths[key] is not None)

    def plan(self, first, last):
        return asks(lacking(self.known(), first, last), self.cost)

    def ask(self, first, last):
        self.hear()
        planned = self.plan(first, last)
        for start, end in planned:
            self.take(start, end)
        # The asks of a plan never lead out of its stretch, so this marks all that came.
        self.mark(keys_of(((first, last),)))
        rows = self.peek(first, last)
        # Only now, since a stretch greater than the room is told whole, too.
        self.make_room()
        return rows

    def page(self, first, many):
        rows = []
        for start in range(first, END, PAGE_STEP):
            if len(rows) >= many:
                break
            rows.extend(self.ask(start, min(start + PAGE_STEP, END)))
        if len(rows) < many:
            return (tuple(rows), None)
        told = tuple(rows[:many])
        return (told, key_behind(told, first))

    def share(self, other):
        self.hear()
        other.hear()
        fresh = without(other.known(), self.known())
        fresh_keys = keys_of(fresh)
        for key in fresh_keys:
            self.worths[key] = other.worths[key]
        self.mark(fresh_keys)
        self.make_room()
        return fresh

    def take(self, first, last):
        worths = dict(self.source.ask(first, last))
        for key in range(first, last):
            self.worths[key] = worths.get(key)

    def mark(self, marked_keys):
        self.stamp += 1
        for key in marked_keys:
            self.stamps[key] = self.stamp

    def make_room(self):
        surplus = max(0, len(self.worths) - self.room)
        oldest_first = sorted(self.worths, key=lambda key: (self.stamps[key], key))
        self.forget(oldest_first[:surplus])

    def forget(self, gone_keys):
        for key in gone_keys:
            del self.worths[key]
            del self.stamps[key]
