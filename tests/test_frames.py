"""Points 2, 18 and 23 to 26: frames, against sets of bars kept beside them."""

import random
import unittest

from evernever.errors import NoFrame, NotShut
from evernever.frames import Frames
from plain import (
    Case, Plain, PlainFrames, all_bars, chart_of, crowd_in, distances, drawn_bar, drawn_charts, due_may_shut, left_out,
    ring, row,
)


class FrameCase(Case):
    def same(self, frames, due):
        """All that is told is what is due."""
        self.assertEqual(frames.last(), due.last())
        self.whole(frames.last())
        for k in range(due.last() + 1):
            self.whole(frames.crowd(k))
            self.assertEqual(frames.crowd(k), crowd_in(due.crowd(k)), k)
        for k in range(1, due.last() + 1):
            for told, bars in ((frames.bars(k), due.bars(k)), (frames.own(k), due.own(k))):
                self.assertIs(type(told), list)
                self.assertEqual(told, bars, k)
        self.assertEqual(frames.still(), due.still())
        self.assertIn(type(frames.still()), (int, type(None)))

    def holds(self, frames, plain, found):
        """What point 26 says, by what the frames tell."""
        crowds = [frames.crowd(k) for k in range(frames.last() + 1)]
        starts = crowd_in(plain.starts)
        for k, crowd in enumerate(crowds):
            self.assertEqual(starts & ~crowd, 0)
            self.assertEqual(crowd_in(stand for stand in found if found[stand] <= k) & ~crowd, 0)
        for one, other in zip(crowds, crowds[1:]):
            self.assertEqual(one & ~other, 0)
            onto = [onto for stand, some in enumerate(plain.steps) if one >> stand & 1 for onto in some]
            self.assertEqual(crowd_in(onto) & ~other, 0)


# No step leads to a stand in which lamp 2 is lit; the start is 0.
QUIET = Plain(3, {0}, {7}, [{1}, {0}, {3}, {1}, {0}, {1}, {2}, {3}])


class Beginning(FrameCase):
    def test_two_frames(self):
        for plain in drawn_charts(90, [10, 10, 10, 5, 5, 5]):
            frames = Frames(chart_of(plain))
            self.same(frames, PlainFrames(plain))
            self.assertEqual(frames.last(), 1)
            self.assertEqual((frames.crowd(0), frames.crowd(1)), (crowd_in(plain.starts), 2 ** 2 ** plain.many - 1))
            self.assertEqual((frames.bars(1), frames.own(1), frames.still(), frames.push()), ([], [], None, []))

    def test_frames_without_bars_are_still(self):
        frames = Frames(chart_of(ring(2, [0], [3])))
        self.assertIsNone(frames.add_frame())
        self.assertEqual((frames.last(), frames.still(), frames.push()), (2, 1, []))
        for k in range(3, 30):
            self.assertIsNone(frames.add_frame())
            self.assertEqual((frames.last(), frames.still(), frames.crowd(k), frames.bars(k)), (k, 1, 15, []))

    def test_no_still_frame_where_there_is_one_alone(self):
        frames = Frames(chart_of(Plain(1, {0, 1}, set(), [set(), set()])))
        self.assertIsNone(frames.still())

    def test_frame_0_and_the_last_are_not_still(self):
        # The crowds of frame 0 and frame 1 are alike here.
        frames = Frames(chart_of(Plain(1, {0}, set(), [set(), set()])))
        frames.shut(1, (1, 1))
        self.assertEqual((frames.crowd(0), frames.crowd(1), frames.still()), (1, 1, None))
        frames.add_frame()
        self.assertEqual((frames.crowd(2), frames.still()), (3, None))
        self.assertEqual((frames.push(), frames.still()), ([(1, (1, 1))], 1))


class ByHand(FrameCase):
    def setUp(self):
        self.frames = Frames(chart_of(QUIET))

    def test_shut_out_of_the_frames_from_1_on(self):
        frames = self.frames
        self.assertIsNone(frames.shut(1, (4, 4)))
        frames.add_frame()
        self.assertIsNone(frames.shut(2, (7, 7)))
        self.assertEqual((frames.bars(1), frames.bars(2)), ([(4, 4), (7, 7)], [(7, 7)]))
        self.assertEqual((frames.own(1), frames.own(2)), ([(4, 4)], [(7, 7)]))
        self.assertEqual((frames.crowd(1), frames.crowd(2)), (0b00001111, 0b01111111))

    def test_a_bar_within_one_of_the_frame_changes_nothing(self):
        frames = self.frames
        frames.shut(1, (4, 4))
        frames.shut(1, (5, 5))
        frames.shut(1, (4, 4))
        self.assertEqual(frames.bars(1), [(4, 4)])

    def test_bars_within_the_new_one_are_taken_out(self):
        frames = self.frames
        frames.shut(1, (7, 7))
        frames.shut(1, (7, 5))
        frames.shut(1, (7, 2))
        self.assertEqual(frames.bars(1), [(7, 2), (7, 5), (7, 7)])
        frames.shut(1, (4, 4))
        self.assertEqual(frames.bars(1), [(4, 4), (7, 2)])

    def test_they_stay_where_a_frame_beyond_has_them(self):
        frames = self.frames
        frames.add_frame()
        frames.shut(2, (7, 7))
        frames.shut(1, (7, 5))
        frames.shut(1, (4, 4))
        self.assertEqual((frames.bars(1), frames.bars(2)), ([(4, 4), (7, 7)], [(7, 7)]))
        self.assertEqual((frames.own(1), frames.own(2)), ([(4, 4)], [(7, 7)]))

    def test_the_same_bar_out_of_a_further_frame(self):
        frames = self.frames
        frames.shut(1, (7, 7))
        frames.shut(1, (4, 4))
        frames.add_frame()
        frames.shut(2, (7, 7))
        self.assertEqual((frames.bars(1), frames.bars(2)), ([(4, 4), (7, 7)], [(7, 7)]))
        frames.shut(2, (4, 4))
        self.assertEqual((frames.bars(1), frames.bars(2), frames.own(1)), ([(4, 4)], [(4, 4)], []))
        frames.shut(1, (7, 7))
        self.assertEqual((frames.bars(1), frames.bars(2)), ([(4, 4)], [(4, 4)]))

    def test_pushed_over_several_frames_at_once(self):
        frames = self.frames
        frames.shut(1, (6, 4))
        frames.shut(1, (6, 6))
        for _ in range(3):
            frames.add_frame()
        self.assertEqual(frames.push(), [(k, bar) for k in (1, 2, 3) for bar in ((6, 4), (6, 6))])
        self.assertEqual([frames.own(k) for k in (1, 2, 3, 4)], [[], [], [], [(6, 4), (6, 6)]])
        self.assertEqual((frames.push(), frames.still()), ([], 1))

    def test_nothing_is_taken_out_by_a_push(self):
        # (7, 7) lies within (4, 4), and both come to be bars of frame 2.
        frames = self.frames
        frames.add_frame()
        frames.shut(2, (7, 7))
        frames.shut(1, (4, 4))
        self.assertEqual(frames.push(), [(1, (4, 4))])
        self.assertEqual((frames.bars(1), frames.bars(2)), ([(4, 4), (7, 7)], [(4, 4), (7, 7)]))

    def test_a_bar_is_pushed_by_all_stands_of_the_crowd_those_in_other_bars_aside(self):
        # A step leads to 3 from 2 alone: the bar of 3 goes on once 2 is shut out of frame 1.
        frames = Frames(chart_of(Plain(2, {0}, {3}, [set(), set(), {3}, set()])))
        frames.shut(1, (3, 3))
        frames.add_frame()
        self.assertEqual(frames.push(), [])
        frames.shut(1, (3, 2))
        self.assertEqual(frames.push(), [(1, (3, 2)), (1, (3, 3))])


class Refused(FrameCase):
    def unchanged(self, frames, due, refusal, deed, *handed):
        self.refused(refusal, deed, *handed)
        self.same(frames, due)

    def test_numbers_that_are_no_frames(self):
        plain = row(2, [0], [3])
        frames, due = Frames(chart_of(plain)), PlainFrames(plain)
        for last in (1, 2, 3, 4):
            for k in (-1, -2, last + 1, last + 2, 10 ** 29, -10 ** 29):
                self.unchanged(frames, due, NoFrame, frames.crowd, k)
            for k in (0, -1, -2, last + 1, last + 2, 10 ** 29):
                self.unchanged(frames, due, NoFrame, frames.bars, k)
                self.unchanged(frames, due, NoFrame, frames.own, k)
                for bar in ((3, 3), (3, 0), (0, 0), (1, 1)):
                    self.unchanged(frames, due, NoFrame, frames.shut, k, bar)
            for some in (frames, due):
                some.shut(1, (3, 4 - last) if last < 3 else (3, 3))
                some.add_frame()
            self.same(frames, due)

    def test_bars_that_may_not_be_shut(self):
        plain = row(2, [0], [3])
        frames, due = Frames(chart_of(plain)), PlainFrames(plain)
        for some in (frames, due):
            some.add_frame()
            some.shut(1, (3, 2))
        # The starts, the stand behind the start, and what holds one of these.
        for bar in ((3, 0), (3, 1), (1, 0), (2, 0), (1, 1), (0, 0)):
            self.unchanged(frames, due, NotShut, frames.shut, 1, bar)
            self.unchanged(frames, due, NotShut, frames.shut, 2, bar)
        # By the crowd of frame 1 a step leads to 2 still, and none to 3, for 2 is shut out there.
        self.unchanged(frames, due, NotShut, frames.shut, 2, (3, 2))
        self.assertIsNone(frames.shut(2, (3, 3)))
        due.shut(2, (3, 3))
        self.same(frames, due)


class Deeds(FrameCase):
    def drawn_deed(self, draw, due):
        """A frame and a bar: any at all, or one that may be shut, or one near a bar that is there."""
        many, k = due.plain.many, draw.randrange(due.last() + 2)
        there = sorted(set().union(*due.sets[1:]))
        if there and draw.random() < 0.3:
            bar = draw.choice(there)
            if draw.random() < 0.5:
                return k, left_out(bar, [draw.randrange(many)])
            more = drawn_bar(draw, many)
            return k, (bar[0] | more[0], bar[1] | more[1] & ~bar[0])
        bars = [drawn_bar(draw, many) for _ in range(12)]
        bars += [(2 ** many - 1, draw.randrange(2 ** many)) for _ in range(6)]
        if 1 <= k <= due.last() and draw.random() < 0.8:
            held = due.crowd(k - 1)
            bars = [bar for bar in bars if due_may_shut(due.plain, held, bar)] or bars
        return k, draw.choice(bars)

    def deed(self, draw, frames, due, met):
        sort = draw.choice(["shut"] * 8 + ["add", "push", "push"])
        if sort == "add" and due.last() < 7:
            self.assertIsNone(frames.add_frame())
            due.add_frame()
        elif sort == "push":
            told = frames.push()
            self.assertIs(type(told), list)
            self.assertEqual(told, due.push())
            met["push"] += len(told)
        elif sort == "shut":
            k, bar = self.drawn_deed(draw, due)
            refusal = due.refusal(k, bar)
            if refusal is not None:
                self.refused(refusal, frames.shut, k, bar)
                met[refusal.__name__] += 1
            else:
                before = [set(some) for some in due.sets[1:]]
                self.assertIsNone(frames.shut(k, bar))
                due.shut(k, bar)
                met["same" if before == due.sets[1:] else "shut"] += 1
                met["out"] += any(one - other for one, other in zip(before, due.sets[1:]))

    def test_drawn(self):
        draw = random.Random(91)
        met = {"push": 0, "NoFrame": 0, "NotShut": 0, "same": 0, "shut": 0, "out": 0}
        for plain in drawn_charts(92, [6, 16, 40, 20, 4, 2]):
            chart = chart_of(plain)
            frames, other, due = Frames(chart), Frames(chart), PlainFrames(plain)
            found = distances(plain)
            for _ in range(40):
                self.deed(draw, frames, due, met)
                self.same(frames, due)
                self.holds(frames, plain, found)
            self.same(other, PlainFrames(plain))
        self.assertGreater(min(met.values()), 40, met)

    def test_two_hundred_frames(self):
        frames = Frames(chart_of(ring(2, [0], [])))
        for k in range(2, 200):
            frames.add_frame()
        self.assertEqual((frames.last(), frames.crowd(199), frames.still()), (199, 15, 1))


class Stays(FrameCase):
    def test_told_lists_are_the_askers_own(self):
        frames, due = Frames(chart_of(QUIET)), PlainFrames(QUIET)
        for some in (frames, due):
            some.shut(1, (6, 4))
            some.shut(1, (7, 7))
            some.add_frame()
        bars, own = frames.bars(1), frames.own(1)
        for told in (frames.bars(1), frames.own(1), frames.bars(2), frames.own(2)):
            told.append((0, 0))
            told.reverse()
            self.same(frames, due)
        pushed = frames.push()
        due.push()
        kept = list(pushed)
        self.same(frames, due)
        for some in (frames, due):
            some.shut(2, (4, 4))
            some.add_frame()
            some.push()
        self.assertEqual((bars, own), ([(6, 4), (7, 7)], [(6, 4), (7, 7)]))
        self.assertEqual(pushed, kept)
        pushed.clear()
        self.same(frames, due)

    def test_all_bars_of_two_lamps_in_each_order(self):
        draw = random.Random(93)
        plain = Plain(2, {0}, {3}, [{0}, {0}, {1}, {2}])
        for _ in range(100):
            frames, due = Frames(chart_of(plain)), PlainFrames(plain)
            for some in (frames, due):
                some.add_frame()
            bars = all_bars(2)
            draw.shuffle(bars)
            for bar in bars:
                k = draw.choice([1, 2])
                if due.refusal(k, bar) is None:
                    frames.shut(k, bar)
                    due.shut(k, bar)
                    self.same(frames, due)


if __name__ == "__main__":
    unittest.main()
