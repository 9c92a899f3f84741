"""Frames: bars that keep what is reached in so many steps."""

from evernever.bars import crowd_of, within
from evernever.crowds import all_stands
from evernever.errors import NoFrame, NotShut
from evernever.shutting import may_shut


class Frames:
    def __init__(self, chart):
        self.base = chart
        # A bar of a frame is one of all frames ahead of it, so the number of its last frame tells all.
        self.levels = {}
        # What the bars of each frame keep, reckoned anew only where a bar comes in.
        self.crowds = [chart.starts, all_stands(chart.many)]

    def last(self):
        return len(self.crowds) - 1

    def check(self, k, first):
        if k < first or k > self.last():
            raise NoFrame(f"there is no such frame {k}")

    def crowd(self, k):
        self.check(k, 0)
        return self.crowds[k]

    def bars(self, k):
        self.check(k, 1)
        return sorted([bar for bar, level in self.levels.items() if level >= k])

    def own(self, k):
        self.check(k, 1)
        return sorted([bar for bar, level in self.levels.items() if level == k])

    def shut(self, k, bar):
        self.check(k, 1)
        if not may_shut(self.base, self.crowds[k - 1], bar):
            raise NotShut("the bar may not be shut out of that frame")
        if any([within(bar, other) for other in self.bars(k)]):
            return
        stay = {}
        for other, level in self.levels.items():
            if level > k or not within(other, bar):
                stay[other] = level
        stay[bar] = k
        self.levels = stay
        for number in range(1, k + 1):
            self.take_out(number, bar)

    def take_out(self, number, bar):
        self.crowds[number] = self.crowds[number] & ~crowd_of(self.base.many, bar)

    def add_frame(self):
        self.crowds.append(all_stands(self.base.many))

    def push(self):
        pushed = []
        for k in range(1, self.last()):
            for bar in self.own(k):
                if self.base.behind(crowd_of(self.base.many, bar)) & self.crowds[k] == 0:
                    self.levels[bar] = k + 1
                    self.take_out(k + 1, bar)
                    pushed.append((k, bar))
        return pushed

    def still(self):
        for k in range(1, self.last()):
            if self.crowds[k] == self.crowds[k + 1]:
                return k
        return None
