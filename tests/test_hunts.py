"""Points 2, 4, 27 and 28: the hunt, its diary played again upon frames of the beginning."""

import time
import unittest

from evernever.charts import Chart
from evernever.frames import Frames
from evernever.hunts import hunt
from plain import (
    Case, Plain, PlainFrames, as_wide_as_can_be, chart_of, distances, drawn_charts, due_is_way, due_nearest, ring, row,
    stands_in_bar, stands_of,
)

DRAWN = drawn_charts(100, [60, 150, 150, 80, 12, 6])


def just_so_far(plain, many):
    """For 0, 1, 2 .. steps the stands from which a row of just so many leads to a bad stand."""
    found = [set(plain.bads)]
    for _ in range(many):
        found.append({stand for stand, onto in enumerate(plain.steps) if onto & found[-1]})
    return found


class HuntCase(Case):
    def check(self, plain):
        chart = chart_of(plain)
        told = hunt(chart)
        self.assertIs(type(told), tuple)
        diary, end = told
        self.kinds(diary, end)
        if plain.starts & plain.bads:
            self.assertEqual((diary, end[0]), ([], "ever"))
            self.assertEqual(len(end[1]), 1)
            self.assertIn(end[1][0], plain.starts & plain.bads)
            return told
        frames = self.played(plain, chart, diary, end)
        self.assertLessEqual(frames.last(), 2 ** plain.many + 1)
        if due_nearest(plain) is None:
            self.assertEqual(end, ("never", frames.bars(frames.still())))
        else:
            self.assertEqual(end[0], "ever")
            self.assertTrue(due_is_way(plain, end[1]), end)
            self.assertEqual(len(end[1]), due_nearest(plain) + 1)
            self.assertEqual(frames.last(), len(end[1]) - 1)
        return told

    def kinds(self, diary, end):
        self.assertIs(type(diary), list)
        for deed in diary:
            self.assertIs(type(deed), tuple)
            self.assertEqual(len(deed), {"shut": 3, "push": 3, "add": 2}[deed[0]])
            self.whole(deed[1])
            if len(deed) == 3:
                self.assertEqual([type(part) for part in deed[2]], [int, int])
        self.assertIs(type(end), tuple)
        self.assertEqual((len(end), type(end[0]), type(end[1])), (2, str, list))
        self.assertIn(end[0], ("ever", "never"))

    def played(self, plain, chart, diary, end):
        frames = Frames(chart)
        far = just_so_far(plain, 2 ** plain.many + 1)
        left = list(diary)
        while left:
            deed = left.pop(0)
            # Behind an "add" all its pushes are taken at once, so none is met here.
            self.assertIn(deed[0], ("shut", "add"))
            if deed[0] == "shut":
                self.shut(plain, frames, far, deed[1], deed[2])
            else:
                self.assertEqual(deed[1], frames.last() + 1)
                self.assertEqual(frames.crowd(frames.last()) & chart.bads, 0)
                frames.add_frame()
                pushed = [("push", k, bar) for k, bar in frames.push()]
                self.assertEqual(left[:len(pushed)], pushed)
                left = left[len(pushed):]
                if frames.still() is not None:
                    self.assertEqual((left, end[0]), ([], "never"))
        if end[0] == "never":
            self.assertIn(diary[-1][0], ("add", "push"))
            self.assertIsNotNone(frames.still())
        return frames

    def shut(self, plain, frames, far, k, bar):
        held = stands_of(frames.crowd(k - 1))
        self.assertTrue(as_wide_as_can_be(plain, held, bar), (plain, k, bar))
        asked = stands_in_bar(bar, plain.many) & set(stands_of(frames.crowd(k)))
        self.assertNotEqual(asked & far[frames.last() - k], set(), (plain, k, bar))
        frames.shut(k, bar)


class Drawn(HuntCase):
    def test_drawn(self):
        met = {"ever": 0, "never": 0}
        for plain in DRAWN:
            met[self.check(plain)[1][0]] += 1
        self.assertGreater(min(met.values()), 80, met)

    def test_frames_kept_beside(self):
        for plain in [plain for plain in DRAWN if plain.many <= 3][::3]:
            diary, end = hunt(chart_of(plain))
            due = PlainFrames(plain)
            for deed in diary:
                if deed[0] == "shut":
                    self.assertIsNone(due.refusal(deed[1], deed[2]))
                    due.shut(deed[1], deed[2])
                elif deed[0] == "add":
                    due.add_frame()
                    self.assertEqual([("push", k, bar) for k, bar in due.push()],
                                     [other for other in self.behind(diary, deed) if other[0] == "push"])
            if end[0] == "never":
                self.assertEqual(end[1], due.bars(due.still()))

    def behind(self, diary, deed):
        """What stands in the diary behind this "add" and ahead of the next one."""
        rest = diary[diary.index(deed) + 1:]
        ends = [at for at, other in enumerate(rest) if other[0] == "add"] + [len(rest)]
        return rest[:ends[0]]

    def test_rows_and_rings(self):
        for many in range(1, 5):
            last = 2 ** many - 1
            for make in (row, ring):
                for starts, bads in (([0], [last]), ([1], [0]), ([0], [1]), ([last], [0]), ([0, last], [1]), ([], [0]),
                                     ([0], []), ([0, 1], [last]), ([last], [last])):
                    self.check(make(many, starts, bads))
        self.check(ring(5, [1], [0]))
        self.check(row(6, [0], [63]))
        self.check(row(6, [8], [0]))

    def test_steps_to_itself(self):
        for many in (1, 2, 3):
            size = 2 ** many
            for start in range(size):
                for bad in range(size):
                    self.check(Plain(many, {start}, {bad}, [{stand} for stand in range(size)]))

    def test_all_steps(self):
        for many in (1, 2, 3):
            size = 2 ** many
            whole = [set(range(size)) for _ in range(size)]
            for start in range(size):
                self.check(Plain(many, {start}, {size - 1}, whole))
                self.check(Plain(many, {start}, set(range(size)) - {start}, whole))

    def test_each_chart_of_one_lamp(self):
        sets = [set(), {0}, {1}, {0, 1}]
        for starts in sets:
            for bads in sets:
                for one in sets:
                    for other in sets:
                        self.check(Plain(1, starts, bads, [one, other]))


class ByHand(HuntCase):
    def test_a_start_that_is_bad(self):
        self.assertEqual(hunt(chart_of(ring(2, [1], [1, 2]))), ([], ("ever", [1])))
        self.assertEqual(hunt(chart_of(ring(6, [40], [40]))), ([], ("ever", [40])))

    def test_no_bad_stand(self):
        self.assertEqual(hunt(chart_of(ring(2, [1], []))), ([("add", 2)], ("never", [])))

    def test_no_start(self):
        diary = [("shut", 1, (0, 0)), ("add", 2), ("push", 1, (0, 0))]
        self.assertEqual(hunt(chart_of(ring(2, [], [3]))), (diary, ("never", [(0, 0)])))

    def test_one_step(self):
        self.assertEqual(hunt(Chart(1, 1, 2, [2, 0])), ([], ("ever", [0, 1])))

    def test_no_steps(self):
        diary = [("shut", 1, (1, 1)), ("add", 2), ("push", 1, (1, 1))]
        self.assertEqual(hunt(Chart(1, 1, 2, [0, 0])), (diary, ("never", [(1, 1)])))


class Stays(HuntCase):
    def test_asked_again(self):
        for plain in DRAWN[::6]:
            chart = chart_of(plain)
            first, second = hunt(chart), hunt(chart)
            word, copies = second[1][0], (list(second[0]), list(second[1][1]))
            first[0].clear()
            first[1][1].append(0)
            self.assertEqual((second[0], second[1][1]), copies)
            self.assertEqual(hunt(chart)[1][0], word)
            self.check(plain)
            self.assertEqual((chart.many, chart.starts, chart.bads),
                             (plain.many, chart_of(plain).starts, chart_of(plain).bads))
            for stand in range(2 ** plain.many):
                self.assertEqual(set(stands_of(chart.ahead(2 ** stand))), plain.steps[stand])


class SixLamps(HuntCase):
    def test_time(self):
        charts = drawn_charts(101, [0, 0, 0, 0, 0, 60]) + [row(6, [0], [63]), ring(6, [1], [0]), row(6, [8], [0])]
        for plain in charts:
            before = time.perf_counter()
            end = hunt(chart_of(plain))[1]
            self.assertLess(time.perf_counter() - before, 5)
            self.assertEqual(end[0], "ever" if set(distances(plain)) & plain.bads else "never")


if __name__ == "__main__":
    unittest.main()
