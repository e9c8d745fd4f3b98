"""Summers: they keep sums of worths, and ask the source for none that follows of those kept."""

from keptranges.spreads import met


class Summer:
    """Sums of stretches as the source told them."""

    def __init__(self, source):
        self.source = source
        self.heard_clock = source.clock()
        self.kept = []
        self.ask_count = 0

    def sums(self):
        return tuple(sorted(self.kept))

    def asked(self):
        return self.ask_count

    def hear(self):
        changed = self.source.changes_since(self.heard_clock)
        self.heard_clock = self.source.clock()
        still = [(first, last, total) for first, last, total in self.kept if not met(((first, last),), changed)]
        gone = len(self.kept) - len(still)
        self.kept = still
        return gone

    def follows(self, first, last):
        # No keys have the sum 0 whatever is kept; kept backwards, it would lead other sums astray.
        if first >= last:
            return 0
        # All kept sums are true at the clock heard last, so every way from first to last tells the same.
        reached = {first: 0}
        waiting = [first]
        while waiting:
            place = waiting.pop()
            for end, total in self.steps_from(place):
                if end not in reached:
                    reached[end] = reached[place] + total
                    waiting.append(end)
        return reached.get(last)

    def steps_from(self, place):
        onward = [(last, total) for first, last, total in self.kept if first == place]
        back = [(first, -total) for first, last, total in self.kept if last == place]
        return onward + back

    def ask(self, first, last):
        self.hear()
        total = self.follows(first, last)
        if total is None:
            total = self.ask_source(first, last)
            self.kept.append((first, last, total))
        return total

    def ask_source(self, first, last):
        self.ask_count += 1
        return sum(worth for key, worth in self.source.ask(first, last))
