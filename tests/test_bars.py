"""Points 2, 18 and 19: bars, against a look at each stand and each lamp."""

import itertools
import random
import unittest

from evernever.bars import asked_by, bar_of, both, crowd_of, kept, lies_in, within, without
from plain import Case, all_bars, crowd_in, drawn_bar, due_lies

DRAW = random.Random(60)
BARS = all_bars(3) + [drawn_bar(DRAW, many) for many in (4, 5, 6) for _ in range(40)]
SIX = [drawn_bar(DRAW, 6) for _ in range(200)]


def stands_in_bar(bar):
    return {stand for stand in range(64) if due_lies(stand, bar)}


class BarCase(Case):
    def bar(self, told):
        self.assertIs(type(told), tuple)
        self.assertEqual([type(part) for part in told], [int, int])


class Single(BarCase):
    def test_the_bar_of_one_stand(self):
        for many in range(1, 7):
            for stand in range(2 ** many):
                told = bar_of(many, stand)
                self.bar(told)
                self.assertEqual(told, (2 ** many - 1, stand))
                self.assertEqual([other for other in range(2 ** many) if due_lies(other, told)], [stand])

    def test_lies_in(self):
        for bar in BARS + SIX:
            for stand in range(64):
                self.assertIs(lies_in(stand, bar), due_lies(stand, bar), (stand, bar))
        for stand in range(64):
            self.assertIs(lies_in(stand, (0, 0)), True)

    def test_by_hand(self):
        self.assertEqual([lies_in(stand, (0b101, 0b001)) for stand in range(8)],
                         [False, True, False, True, False, False, False, False])
        self.assertEqual(crowd_of(3, (0b101, 0b001)), 0b00001010)
        self.assertEqual(crowd_of(2, (0b01, 0b00)), 0b0101)
        self.assertEqual(crowd_of(1, (0, 0)), 0b11)

    def test_crowd_of(self):
        for many in range(1, 7):
            # Those that ask for more lamps than there are, too: a lamp that is not there is not lit.
            for bar in BARS + SIX:
                told = crowd_of(many, bar)
                self.whole(told)
                self.assertEqual(told, crowd_in(stand for stand in range(2 ** many) if due_lies(stand, bar)))

    def test_asked_by(self):
        for bar in BARS + SIX:
            told = asked_by(bar)
            self.assertIs(type(told), list)
            self.assertEqual(told, [lamp for lamp in range(6) if f"{bar[0]:06b}"[5 - lamp] == "1"])
            told.append(9)
            self.assertNotIn(9, asked_by(bar))

    def test_without(self):
        for bar in BARS + SIX:
            for lamp in range(6):
                told = without(bar, lamp)
                self.bar(told)
                self.assertEqual(asked_by(told), [other for other in asked_by(bar) if other != lamp])
                due = {stand ^ 2 ** lamp for stand in stands_in_bar(bar)} | stands_in_bar(bar)
                self.assertEqual(stands_in_bar(told), due)
                self.assertEqual(told[1] & ~told[0], 0)
                if lamp not in asked_by(bar):
                    self.assertEqual(told, bar)


class Pairs(BarCase):
    def pairs(self):
        draw = random.Random(61)
        yield from itertools.product(all_bars(3), repeat=2)
        for many in (4, 5, 6):
            for _ in range(400):
                yield drawn_bar(draw, many), drawn_bar(draw, many)
        for bar in SIX:
            wider = bar
            for lamp in draw.sample(range(6), 3):
                wider = without(wider, lamp)
            yield bar, wider
            yield wider, bar

    def test_within(self):
        for one, other in self.pairs():
            self.assertIs(within(one, other), stands_in_bar(one) <= stands_in_bar(other), (one, other))
        for bar in BARS + SIX:
            self.assertIs(within(bar, bar), True)
            self.assertIs(within(bar, (0, 0)), True)
            self.assertIs(within((0, 0), bar), bar == (0, 0))

    def test_both(self):
        for one, other in self.pairs():
            told, due = both(one, other), stands_in_bar(one) & stands_in_bar(other)
            if not due:
                self.assertIsNone(told)
            else:
                self.bar(told)
                self.assertEqual(stands_in_bar(told), due)
                self.assertEqual(told[1] & ~told[0], 0)
        for bar in BARS + SIX:
            self.assertEqual(both(bar, bar), bar)
            self.assertEqual(both(bar, (0, 0)), bar)
            self.assertEqual(both((0, 0), bar), bar)


class Kept(BarCase):
    def test_no_bars(self):
        for many in range(1, 7):
            self.assertEqual(kept(many, []), 2 ** 2 ** many - 1)

    def test_the_bar_of_all_stands(self):
        for many in range(1, 7):
            self.assertEqual(kept(many, [(0, 0)]), 0)
            self.assertEqual(kept(many, [(1, 1), (0, 0), (1, 1)]), 0)

    def test_drawn_lists(self):
        draw = random.Random(62)
        for many in range(1, 7):
            for _ in range(120):
                bars = [drawn_bar(draw, many) for _ in range(draw.randrange(6))]
                bars += draw.sample(bars, len(bars) // 2)
                draw.shuffle(bars)
                copy = list(bars)
                told = kept(many, bars)
                self.whole(told)
                due = [stand for stand in range(2 ** many) if not any(due_lies(stand, bar) for bar in bars)]
                self.assertEqual(told, crowd_in(due))
                self.assertEqual(bars, copy)
                self.assertEqual(kept(many, bars[::-1]), told)

    def test_each_stand_by_itself(self):
        for many in range(1, 7):
            bars = [bar_of(many, stand) for stand in range(2 ** many)]
            self.assertEqual(kept(many, bars), 0)
            for stand in range(2 ** many):
                self.assertEqual(kept(many, bars[:stand] + bars[stand + 1:]), 2 ** stand)


if __name__ == "__main__":
    unittest.main()
