"""Points 1, 2 and 4: the whole, from lines to the answer."""

import unittest

from evernever.answers import answer
from evernever.covers import cover
from evernever.fences import fault, is_way, tight
from evernever.floods import nearest, reached, shortest
from evernever.hunts import hunt
from evernever.lines import machine_of, written
from evernever.signs import formula_of
from plain import (
    Case, crowd_in, distances, drawn_machines, due_chart, due_is_way, due_lines, due_nearest, is_cover, is_tight,
)

DRAWN = drawn_machines(150, [40, 120, 140, 80, 20, 15])


class Whole(Case):
    def test_from_lines_to_the_answer(self):
        met = {"ever": 0, "never": 0}
        for plain in DRAWN:
            due = due_chart(plain)
            machine = machine_of(due_lines(plain))
            told = answer(machine.chart())
            steps = due_nearest(due)
            self.assertEqual(told[0], "never" if steps is None else "ever")
            if steps is None:
                self.assertTrue(is_tight(due, told[1]))
            else:
                self.assertTrue(due_is_way(due, told[1]))
                self.assertEqual(len(told[1]), steps + 1)
            met[told[0]] += 1
        self.assertGreater(min(met.values()), 80, met)

    def test_all_parts_agree(self):
        for plain in DRAWN:
            machine = machine_of(due_lines(plain))
            chart = machine.chart()
            end = hunt(chart)[1]
            told = answer(chart)
            self.assertEqual(end[0], told[0])
            self.assertEqual(end[0] == "ever", nearest(chart) is not None)
            self.assertEqual(end[0] == "ever", reached(chart) & chart.bads != 0)
            if end[0] == "ever":
                for way in (end[1], told[1], shortest(chart)):
                    self.assertIs(is_way(chart, way), True)
                    self.assertEqual(len(way), nearest(chart) + 1)
                    picks = [machine.which(one, other) for one, other in zip(way, way[1:])]
                    self.assertEqual(machine.walked(way[0], picks), way)
            else:
                for bars in (end[1], told[1], tight(chart, end[1])):
                    self.assertIsNone(fault(chart, bars))
                    self.assertEqual(reached(chart) & ~formula_of(bars).crowd(chart.many), 0)

    def test_covers_of_what_is_reached(self):
        for plain in DRAWN:
            chart = machine_of(due_lines(plain)).chart()
            stands = sorted(distances(due_chart(plain)))
            self.assertEqual(reached(chart), crowd_in(stands))
            self.assertTrue(is_cover(chart.many, stands, cover(chart.many, reached(chart))))

    def test_asking_changes_nothing(self):
        for plain in DRAWN[::7]:
            lines = due_lines(plain)
            machine = machine_of(lines)
            chart = machine.chart()
            before = (reached(chart), nearest(chart), shortest(chart), hunt(chart), answer(chart))
            answer(machine.chart())
            hunt(machine.chart())
            self.assertEqual(written(machine), lines)
            after = (reached(chart), nearest(chart), shortest(chart), hunt(chart), answer(chart))
            self.assertEqual(before, after)


if __name__ == "__main__":
    unittest.main()
