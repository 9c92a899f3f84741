"""Points 2, 18 and 22: bars that may be shut, and bars as wide as can be."""

import random
import unittest

from evernever.errors import NotShut
from evernever.shutting import may_shut, widened
from plain import (
    Case, Plain, all_bars, as_wide_as_can_be, chart_of, crowd_in, drawn_bar, drawn_charts, due_may_shut, lamps_asked,
    left_out,
)

DRAWN = drawn_charts(80, [40, 60, 60, 40, 15, 10])


def helds(draw, plain):
    """Crowds that may be held: none, all, one stand, all but one, the starts, any."""
    every = set(range(2 ** plain.many))
    one = draw.choice(sorted(every))
    some = set(draw.sample(sorted(every), draw.randrange(len(every) + 1)))
    return [set(), every, {one}, every - {one}, set(plain.starts), some, some | plain.starts]


def some_bars(draw, many):
    if many <= 2:
        return all_bars(many)
    singles = [(2 ** many - 1, draw.randrange(2 ** many)) for _ in range(4)]
    return [drawn_bar(draw, many) for _ in range(8)] + singles + [(0, 0)]


class MayShut(Case):
    def test_by_hand(self):
        # 0 -> 1 -> 3 -> 2 -> 2, the start 0.
        chart = chart_of(Plain(2, {0}, {2}, [{1}, {3}, {2}, {2}]))
        every = 0b1111
        self.assertIs(may_shut(chart, every, (0, 0)), False)
        # A start in the bar.
        self.assertIs(may_shut(chart, 0, (1, 0)), False)
        self.assertIs(may_shut(chart, 0, (2, 0)), False)
        self.assertIs(may_shut(chart, 0, (3, 0)), False)
        # Into the bar from a held stand outside it.
        self.assertIs(may_shut(chart, every, (3, 3)), False)
        self.assertIs(may_shut(chart, 0b0010, (3, 3)), False)
        self.assertIs(may_shut(chart, every, (1, 1)), False)
        # Into the bar from a stand that is not held.
        self.assertIs(may_shut(chart, 0b1101, (3, 3)), True)
        self.assertIs(may_shut(chart, 0b0001, (2, 2)), True)
        # Into the bar from stands in the bar itself.
        self.assertIs(may_shut(chart, 0b0100, (3, 2)), True)
        self.assertIs(may_shut(chart, 0b1100, (2, 2)), True)
        self.assertIs(may_shut(chart, 0b1110, (2, 2)), False)

    def test_drawn(self):
        draw = random.Random(81)
        met = {True: 0, False: 0}
        for plain in DRAWN:
            chart = chart_of(plain)
            for held in helds(draw, plain):
                for bar in some_bars(draw, plain.many):
                    told = may_shut(chart, crowd_in(held), bar)
                    due = due_may_shut(plain, held, bar)
                    self.assertIs(told, due, (plain, held, bar))
                    met[due] += 1
        self.assertGreater(min(met.values()), 2000, met)


class Widened(Case):
    def check(self, plain, chart, held, bar):
        told = widened(chart, crowd_in(held), bar)
        self.assertIs(type(told), tuple)
        self.assertEqual([type(part) for part in told], [int, int])
        gone = set(lamps_asked(bar)) - set(lamps_asked(told))
        self.assertEqual(told, left_out(bar, gone))
        self.assertTrue(as_wide_as_can_be(plain, held, told), (plain, held, bar, told))
        return told

    def test_drawn(self):
        draw = random.Random(82)
        wider = 0
        for plain in DRAWN:
            chart = chart_of(plain)
            for held in helds(draw, plain):
                for bar in some_bars(draw, plain.many):
                    if due_may_shut(plain, held, bar):
                        wider += self.check(plain, chart, held, bar) != bar
                    else:
                        self.refused(NotShut, widened, chart, crowd_in(held), bar)
        self.assertGreater(wider, 1000)

    def test_no_starts_and_nothing_held(self):
        for many in range(1, 7):
            none = [set() for _ in range(2 ** many)]
            chart = chart_of(Plain(many, set(), set(), none))
            for stand in range(2 ** many):
                self.assertEqual(widened(chart, 2 ** 2 ** many - 1, (2 ** many - 1, stand)), (0, 0))

    def test_a_lamp_that_can_go_when_another_has_gone(self):
        # Without lamp 0 the bar 11 has the stand 2 in it, to which a step leads; with lamp 1 gone too there is no
        # stand left outside from which a step could lead. And the other way round.
        for into, stuck, free in ((2, 0, 1), (1, 1, 0)):
            plain = Plain(2, set(), set(), [{into}, set(), set(), set()])
            every = {0, 1, 2, 3}
            self.assertFalse(due_may_shut(plain, every, left_out((3, 3), [stuck])))
            self.assertTrue(due_may_shut(plain, every, left_out((3, 3), [free])))
            self.assertEqual(self.check(plain, chart_of(plain), every, (3, 3)), (0, 0))

    def test_such_lamps_where_there_are_starts(self):
        # The third lamp is lit in no start: what went for two lamps goes within 4 to 7 likewise.
        for into, stuck in ((6, 0), (5, 1)):
            plain = Plain(3, {0, 1, 2, 3}, set(), [set(), set(), set(), set(), {into}, set(), set(), set()])
            every = set(range(8))
            self.assertFalse(due_may_shut(plain, every, left_out((7, 7), [stuck])))
            self.assertEqual(self.check(plain, chart_of(plain), every, (7, 7)), (4, 4))

    def test_such_lamps_of_drawn_charts(self):
        found = 0
        for plain in [plain for plain in DRAWN if plain.many <= 3]:
            chart = chart_of(plain)
            every = set(range(2 ** plain.many))
            for bar in [bar for bar in all_bars(plain.many) if due_may_shut(plain, every, bar)]:
                stuck = [lamp for lamp in lamps_asked(bar) if not due_may_shut(plain, every, left_out(bar, [lamp]))]
                told = self.check(plain, chart, every, bar)
                found += bool(set(stuck) - set(lamps_asked(told)))
        self.assertGreater(found, 10)

    def test_refused(self):
        chart = chart_of(Plain(2, {0}, {2}, [{1}, {3}, {2}, {2}]))
        for bar in ((0, 0), (3, 0), (1, 0), (3, 1), (3, 3), (1, 1)):
            self.refused(NotShut, widened, chart, 0b1111, bar)
            # Good behind each: lamp 0 can go, lamp 1 is dark in the start.
            self.assertEqual(widened(chart, 0b0001, (3, 2)), (2, 2))


if __name__ == "__main__":
    unittest.main()
