"""A source of rows by keys, which change, and what it knows of its changes."""

from keptranges.errors import NoClock
from keptranges.spreads import is_whole, spread_by


class Source:
    """Rows by keys, as they stand and as they stood at every clock."""

    def __init__(self, rows):
        # One dict of worths by keys for each clock; none is changed once it is in.
        self.states = [dict(rows)]
        self.changed_keys = []
        self.ask_count = 0
        self.key_count = 0

    def clock(self):
        return len(self.changed_keys)

    def put(self, key, worth):
        state = dict(self.states[-1])
        state[key] = worth
        self.change(key, state)

    def drop(self, key):
        state = dict(self.states[-1])
        state.pop(key, None)
        self.change(key, state)

    def change(self, key, state):
        self.states.append(state)
        self.changed_keys.append(key)

    def look(self, first, last):
        return self.look_at(self.clock(), first, last)

    def look_at(self, clock, first, last):
        self.check_clock(clock)
        state = self.states[clock]
        return tuple((key, state[key]) for key in range(first, last) if key in state)

    def ask(self, first, last):
        self.ask_count += 1
        self.key_count += len(range(first, last))
        return self.look(first, last)

    def told(self):
        return (self.ask_count, self.key_count)

    def changes_since(self, clock):
        self.check_clock(clock)
        return spread_by(tuple(self.changed_keys[clock:]))

    def unlike_since(self, clock):
        self.check_clock(clock)
        then = self.states[clock]
        now = self.states[-1]
        # Only a key that was changed can be unlike, and spread_by takes keys that come twice.
        changed = self.changed_keys[clock:]
        return spread_by(tuple(key for key in changed if then.get(key) != now.get(key)))

    def check_clock(self, clock):
        # Python would count a clock below 0 from the end of a list, and cut behind its end without an error.
        if not is_whole(clock) or not 0 <= clock <= self.clock():
            raise NoClock(f"there was no clock {clock}")
