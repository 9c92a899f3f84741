"""Points 2, 4 and 31: the answer for a chart, against a plain flood."""

import time
import unittest

from evernever.answers import answer
from evernever.fences import fault, is_way
from plain import Case, chart_of, drawn_charts, due_is_way, due_nearest, is_tight, ring, row

DRAWN = drawn_charts(120, [60, 200, 200, 100, 30, 20])


class Answers(Case):
    def check(self, plain):
        told = answer(chart_of(plain))
        self.assertIs(type(told), tuple)
        self.assertEqual((len(told), type(told[0]), type(told[1])), (2, str, list))
        steps = due_nearest(plain)
        if steps is None:
            self.assertEqual(told[0], "never")
            self.assertEqual(told[1], sorted(set(told[1])))
            self.assertTrue(is_tight(plain, told[1]), (plain, told))
            self.assertIsNone(fault(chart_of(plain), told[1]))
        else:
            self.assertEqual((told[0], len(told[1])), ("ever", steps + 1))
            self.assertTrue(due_is_way(plain, told[1]), (plain, told))
            self.assertIs(is_way(chart_of(plain), told[1]), True)
        return told[0]

    def test_drawn(self):
        met = {"ever": 0, "never": 0}
        for plain in DRAWN:
            met[self.check(plain)] += 1
        self.assertGreater(min(met.values()), 100, met)

    def test_rows_and_rings(self):
        for many in range(1, 7):
            last = 2 ** many - 1
            for make in (row, ring):
                for starts, bads in (([0], [last]), ([1], [0]), ([], [0]), ([0], []), ([], []), ([last], [last])):
                    self.check(make(many, starts, bads))

    def test_no_bad_stand(self):
        self.assertEqual(answer(chart_of(ring(3, [0], []))), ("never", []))
        self.assertEqual(answer(chart_of(ring(3, [], [0]))), ("never", [(0, 0)]))

    def test_told_lists_may_be_changed(self):
        for plain in DRAWN[::20]:
            chart = chart_of(plain)
            first, second = answer(chart), answer(chart)
            copy = list(second[1])
            first[1].clear()
            self.assertEqual(second[1], copy)
            self.assertEqual(answer(chart)[0], second[0])
            self.assertEqual(len(answer(chart)[1]) > 0, len(copy) > 0)

    def test_time(self):
        for plain in drawn_charts(121, [0, 0, 0, 0, 0, 40]) + [row(6, [0], [63]), ring(6, [1], [0]), row(6, [8], [0])]:
            before = time.perf_counter()
            answer(chart_of(plain))
            self.assertLess(time.perf_counter() - before, 5)


if __name__ == "__main__":
    unittest.main()
