"""Points 2, 13, 18 and 29 to 31: faults, tight fences, ways."""

import random
import unittest

from evernever.errors import NoFence
from evernever.fences import fault, is_way, tight
from evernever.hunts import hunt
from plain import (
    Case, Plain, all_bars, chart_of, distances, drawn_bar, drawn_charts, due_fault, due_is_way, is_tight, lamps_asked,
    left_out, ring, row, stands_in_bar,
)

DRAWN = drawn_charts(110, [40, 100, 120, 60, 12, 6])


def outside_bars(draw, plain):
    """Bars in which no stand lies that is reached, all other stands lying in some."""
    every = set(range(2 ** plain.many))
    unreached = every - set(distances(plain))
    bars = []
    for stand in sorted(unreached):
        bar = (2 ** plain.many - 1, stand)
        for lamp in draw.sample(range(plain.many), draw.randrange(plain.many + 1)):
            wider = left_out(bar, [lamp])
            if stands_in_bar(wider, plain.many) <= unreached:
                bar = wider
        bars.append(bar)
    return bars


def fences(draw, plain):
    """Some fences of a chart whose bad stands are not reached."""
    outside = outside_bars(draw, plain)
    singles = [(2 ** plain.many - 1, stand) for bar in outside for stand in sorted(stands_in_bar(bar, plain.many))]
    hunted = hunt(chart_of(plain))[1][1]
    mixed = outside + hunted + hunted
    draw.shuffle(mixed)
    return [outside, sorted(set(singles)), hunted, mixed, singles[:200][::-1] + outside]


class Faults(Case):
    def check(self, plain, bars):
        copy = list(bars)
        told = fault(chart_of(plain), bars)
        self.assertEqual(told, due_fault(plain, bars), (plain, bars))
        self.assertEqual(bars, copy)
        if told is not None:
            self.assertIs(type(told), tuple)
            self.assertEqual([type(part) for part in told], [str] + [int] * (len(told) - 1))
        return told[0] if told else None

    def test_by_hand(self):
        # 0 -> 1 -> 3, 2 -> 3, the start 0.
        plain = Plain(2, {0}, {2}, [{1}, {3}, {3}, set()])
        self.assertEqual(fault(chart_of(plain), [(0, 0)]), ("start", 0))
        self.assertEqual(fault(chart_of(plain), [(2, 2)]), ("step", 1, 3))
        self.assertEqual(fault(chart_of(plain), [(1, 1)]), ("step", 0, 1))
        self.assertEqual(fault(chart_of(plain), []), ("bad", 2))
        self.assertIsNone(fault(chart_of(plain), [(3, 2)]))

    def test_the_first_and_the_least(self):
        plain = Plain(2, {1, 3}, {0, 2}, [{3, 1}, {2}, {3, 2}, {0, 2}])
        self.assertEqual(fault(chart_of(plain), [(1, 1)]), ("start", 1))
        self.assertEqual(fault(chart_of(plain), [(3, 3), (3, 1)]), ("start", 1))
        self.assertEqual(fault(chart_of(plain), [(3, 3)]), ("start", 3))
        self.assertEqual(fault(chart_of(plain), [(3, 2)]), ("step", 1, 2))
        self.assertEqual(fault(chart_of(plain), [(1, 0)]), ("step", 1, 2))
        self.assertEqual(fault(chart_of(plain), [(3, 0)]), ("step", 3, 0))
        self.assertEqual(fault(chart_of(plain), []), ("bad", 0))
        none = Plain(2, {1}, {0, 2}, [set(), set(), {2}, set()])
        self.assertEqual(fault(chart_of(none), [(3, 0)]), ("bad", 2))
        self.assertEqual(fault(chart_of(none), [(3, 2)]), ("bad", 0))
        self.assertIsNone(fault(chart_of(none), [(3, 2), (3, 0), (3, 2)]))

    def test_drawn(self):
        draw = random.Random(111)
        met = {"start": 0, "step": 0, "bad": 0, None: 0}
        for plain in DRAWN:
            for _ in range(6):
                bars = [drawn_bar(draw, plain.many) for _ in range(draw.randrange(4))]
                bars += draw.sample(bars, len(bars) // 2)
                met[self.check(plain, bars)] += 1
            met[self.check(plain, outside_bars(draw, plain))] += 1
            met[self.check(plain, [])] += 1
        self.assertGreater(min(met.values()), 100, met)

    def test_without_starts_bads_steps(self):
        none = [set()] * 4
        for plain in (ring(2, [], [0]), ring(2, [0], []), Plain(2, {0}, {3}, none), Plain(2, set(), set(), none)):
            for one in all_bars(2):
                self.check(plain, [one])
                for other in all_bars(2):
                    self.check(plain, [one, other, one])


class Tight(Case):
    def check(self, plain, bars):
        copy = list(bars)
        told = tight(chart_of(plain), bars)
        self.assertEqual(bars, copy)
        self.assertIs(type(told), list)
        self.assertEqual(told, sorted(set(told)))
        self.assertTrue(is_tight(plain, told), (plain, bars, told))
        for bar in told:
            self.assertEqual([type(bar), type(bar[0]), type(bar[1])], [tuple, int, int])
            self.assertIn(bar, [left_out(other, set(range(6)) - set(lamps_asked(bar))) for other in bars])
        return told

    def test_drawn(self):
        draw = random.Random(112)
        often = 0
        for plain in DRAWN:
            if not set(distances(plain)) & plain.bads:
                for bars in fences(draw, plain):
                    if due_fault(plain, bars) is None:
                        self.check(plain, bars)
                        often += len(bars) > 1
        self.assertGreater(often, 200)

    def test_no_bad_stand_needs_no_bar(self):
        for many in range(1, 7):
            plain = ring(many, [0], [])
            self.assertEqual(self.check(plain, []), [])
            plain = row(many, [2 ** many - 1], [])
            self.assertEqual(self.check(plain, [(2 ** many - 1, 0)]), [])

    def test_no_start(self):
        for many in range(1, 7):
            plain = ring(many, [], [0])
            self.assertEqual(self.check(plain, [(0, 0)]), [(0, 0)])
            every = [(2 ** many - 1, stand) for stand in range(2 ** many)]
            self.assertEqual(self.check(plain, every), [(0, 0)])

    def test_a_lamp_that_can_go_when_another_has_gone(self):
        # Nothing starts: the bar 11 without lamp 0 has 2 in it, to which a step leads from 0; without lamp 1 it
        # stays a fence, and then without lamp 0 too. And the other way round.
        for into in (2, 1):
            plain = Plain(2, set(), {3}, [{into}, set(), set(), set()])
            self.assertEqual(self.check(plain, [(3, 3)]), [(0, 0)])

    def test_a_lamp_that_can_go_when_one_of_another_bar_has_gone(self):
        # Starts leave to the bar of 0 only the stand 1, and to that of 7 only 5, from which a step leads to 1.
        steps = [set(), set(), set(), set(), set(), {1}, set(), set()]
        plain = Plain(3, {2, 3, 4, 6}, {0, 7}, steps)
        self.assertEqual(self.check(plain, [(7, 0), (7, 7)]), [(5, 5), (6, 0)])
        # The same with each lamp turned over, so that the bars come the other way round.
        steps = [set(), set(), {6}, set(), set(), set(), set(), set()]
        plain = Plain(3, {5, 4, 3, 1}, {7, 0}, steps)
        self.assertEqual(self.check(plain, [(7, 0), (7, 7)]), [(5, 0), (6, 6)])

    def test_a_bar_that_can_go_when_another_has_gone(self):
        # Starts all round: no lamp can go. The bar ahead of a step can go only when the bar behind it has gone.
        for one, other, third in ((1, 2, 4), (4, 2, 1), (2, 1, 4), (1, 4, 2)):
            steps = [set() for _ in range(8)]
            steps[one], steps[other] = {other}, {third}
            bars = [(7, 1), (7, 2), (7, 4)]
            plain = Plain(3, {0, 3, 5, 6, 7}, set(), steps)
            self.assertIsNotNone(due_fault(plain, [(7, other), (7, third)]))
            self.assertEqual(self.check(plain, bars), [])
            self.assertEqual(self.check(plain, bars[::-1]), [])
            plain = Plain(3, {0, 3, 5, 6, 7}, {other}, steps)
            self.assertEqual(self.check(plain, bars), sorted([(7, one), (7, other)]))

    def test_refused(self):
        draw = random.Random(113)
        refused = 0
        for plain in DRAWN:
            for _ in range(4):
                bars = [drawn_bar(draw, plain.many) for _ in range(draw.randrange(4))]
                if due_fault(plain, bars) is not None:
                    copy = list(bars)
                    self.refused(NoFence, tight, chart_of(plain), bars)
                    self.assertEqual(bars, copy)
                    refused += 1
        self.assertGreater(refused, 300)
        plain = Plain(2, {0}, {2}, [{1}, {3}, {3}, set()])
        for bars in ([], [(0, 0)], [(2, 2)], [(3, 2), (3, 0)], [(3, 3)], [(3, 1)]):
            self.refused(NoFence, tight, chart_of(plain), bars)
            self.assertEqual(tight(chart_of(plain), [(3, 2)]), [(3, 2)])

    def test_the_told_list_may_be_changed(self):
        plain = ring(3, [], [0])
        chart = chart_of(plain)
        told, earlier = tight(chart, [(7, 0), (0, 0)]), tight(chart, [(7, 0), (0, 0)])
        told.clear()
        self.assertEqual(earlier, [(0, 0)])
        self.assertEqual(tight(chart, [(7, 0), (0, 0)]), [(0, 0)])

    def test_hundreds_of_bars(self):
        plain = Plain(6, {63}, set(range(32)), [{stand} for stand in range(64)])
        bars = [bar for bar in all_bars(6) if bar[0] & 32 and not bar[1] & 32] * 4
        self.assertEqual(self.check(plain, bars[:900]), [(32, 0)])


class Ways(Case):
    def check(self, plain, way):
        copy = list(way)
        self.assertIs(is_way(chart_of(plain), way), due_is_way(plain, way), (plain, way))
        self.assertEqual(way, copy)

    def test_by_hand(self):
        plain = Plain(2, {0, 3}, {2, 3}, [{1}, {3, 1}, {2}, {2}])
        for way in ([0, 1, 3], [3], [3, 2], [0, 1, 1, 3, 2, 2]):
            self.assertIs(is_way(chart_of(plain), way), True)
        for way in ([], [0], [2], [1], [0, 1], [0, 3], [1, 3], [0, 1, 2], [3, 3], [0, 2], [3, 2, 3]):
            self.assertIs(is_way(chart_of(plain), way), False)

    def test_numbers_that_are_no_stands(self):
        wrong = [-1, -2, -4, 4, 5, 8, 64, 10 ** 29, -10 ** 29, 10 ** 299]
        plain = Plain(2, {0, 3}, {2, 3}, [{1}, {3, 1}, {2}, {2}])
        for number in wrong:
            for way in ([0, 1, 3], [3], [3, 2], [0, 1, 1, 3, 2, 2]):
                for place in range(len(way) + 1):
                    self.assertIs(is_way(chart_of(plain), way[:place] + [number] + way[place:]), False)
                    self.assertIs(is_way(chart_of(plain), way[:place] + [number] + way[place + 1:]), False)
            self.assertIs(is_way(chart_of(plain), [number]), False)
        whole = Plain(6, set(range(64)), set(range(64)), [set(range(64))] * 64)
        for number in (-1, -64, 64, 65, 10 ** 29):
            self.assertIs(is_way(chart_of(whole), [number]), False)
            self.assertIs(is_way(chart_of(whole), [0, number, 1]), False)
        self.assertIs(is_way(chart_of(whole), list(range(64)) * 15), True)

    def test_drawn(self):
        draw = random.Random(114)
        good = 0
        for plain in DRAWN:
            for _ in range(10):
                way = [draw.choice(sorted(plain.starts))] if plain.starts and draw.random() < 0.9 else []
                while len(way) < 8 and (not way or way[-1] not in plain.bads or draw.random() < 0.5):
                    onto = sorted(plain.steps[way[-1]]) if way and draw.random() < 0.95 else range(2 ** plain.many)
                    if not onto:
                        break
                    way.append(draw.choice(onto))
                self.check(plain, way)
                good += due_is_way(plain, way)
        self.assertGreater(good, 200)

    def test_all_short_rows(self):
        for plain in [plain for plain in DRAWN if plain.many == 2][:40]:
            rows = [[]]
            for _ in range(3):
                rows += [some + [stand] for some in rows for stand in range(-1, 5)]
            for way in rows:
                self.check(plain, way)


if __name__ == "__main__":
    unittest.main()
