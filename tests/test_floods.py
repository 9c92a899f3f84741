"""Points 2, 12 and 13: what is reached, how soon, and by which way."""

import itertools
import unittest

from evernever.charts import Chart
from evernever.floods import layers, nearest, reached, shortest
from plain import Case, Plain, chart_of, crowd_in, distances, drawn_charts, due_nearest, ring, row

DRAWN = drawn_charts(30, [60, 80, 80, 60, 40, 30])
SMALL = drawn_charts(31, [150, 300, 250])


def due_layers(plain):
    found = distances(plain)
    longest = max(found.values(), default=0)
    return [crowd_in(stand for stand in found if found[stand] <= steps) for steps in range(longest + 1)]


def due_shortest(plain):
    """The least of all rows of so many stands, by a look at each step of each."""
    steps = due_nearest(plain)
    if steps is None:
        return None
    ways = [[start] for start in sorted(plain.starts)]
    for _ in range(steps):
        ways = [way + [onto] for way in ways for onto in sorted(plain.steps[way[-1]])]
    return min(way for way in ways if way[-1] in plain.bads)


def all_told(chart):
    return layers(chart), reached(chart), nearest(chart), shortest(chart)


class Layers(Case):
    def check(self, plain):
        chart = chart_of(plain)
        told = layers(chart)
        self.assertIs(type(told), list)
        self.assertEqual({type(crowd) for crowd in told}, {int})
        self.assertEqual(told, due_layers(plain))
        self.whole(reached(chart))
        self.assertEqual(reached(chart), crowd_in(distances(plain)))
        self.assertEqual(nearest(chart), due_nearest(plain))
        self.assertIn(type(nearest(chart)), (int, type(None)))

    def test_drawn(self):
        for plain in DRAWN + SMALL:
            self.check(plain)

    def test_no_start(self):
        for many in range(1, 7):
            chart = chart_of(ring(many, [], [0]))
            self.assertEqual(all_told(chart), ([0], 0, None, None))

    def test_no_bad_stand(self):
        for many in range(1, 7):
            chart = chart_of(ring(many, [1], []))
            self.assertEqual(len(layers(chart)), 2 ** many)
            self.assertIsNone(nearest(chart))
            self.assertIsNone(shortest(chart))

    def test_no_steps(self):
        for many in range(1, 7):
            none = [set() for _ in range(2 ** many)]
            chart = chart_of(Plain(many, {0}, {1}, none))
            self.assertEqual(all_told(chart), ([1], 1, None, None))
            chart = chart_of(Plain(many, {0, 1}, {1}, none))
            self.assertEqual(all_told(chart), ([3], 3, 0, [1]))

    def test_a_start_that_is_bad(self):
        for many in range(1, 7):
            for start in range(2 ** many):
                chart = chart_of(ring(many, [start], [start]))
                self.assertEqual((nearest(chart), shortest(chart)), (0, [start]))

    def test_rows_and_rings_through_all_stands(self):
        for many in range(1, 7):
            last = 2 ** many - 1
            for plain in (row(many, [0], [last]), ring(many, [0], [last])):
                self.check(plain)
                chart = chart_of(plain)
                self.assertEqual(layers(chart), [2 ** steps - 1 for steps in range(1, last + 2)])
                self.assertEqual(nearest(chart), last)
                self.assertEqual(shortest(chart), list(range(last + 1)))
            self.assertIsNone(nearest(chart_of(row(many, [1], [0]))))
            self.assertEqual(nearest(chart_of(ring(many, [1], [0]))), last)
            self.assertEqual(shortest(chart_of(ring(many, [1], [0]))), list(range(1, last + 1)) + [0])


class Shortest(Case):
    def check(self, plain):
        told = shortest(chart_of(plain))
        self.assertEqual(told, due_shortest(plain))
        if told is not None:
            self.assertIs(type(told), list)
            self.assertEqual({type(stand) for stand in told}, {int})

    def test_small(self):
        for plain in SMALL:
            self.check(plain)

    def test_drawn(self):
        for plain in [plain for plain in DRAWN if sum(map(len, plain.steps)) <= 2 * 2 ** plain.many]:
            self.check(plain)

    def test_least_at_the_first_place_at_which_they_differ(self):
        # From 0 by 1 to 7, and from 0 by 2 to 3: the second stand counts ahead of the last one.
        steps = [{1, 2}, {7}, {3}, set(), set(), set(), set(), set()]
        self.assertEqual(shortest(chart_of(Plain(3, {0}, {3, 7}, steps))), [0, 1, 7])
        # The least start does not come to a bad stand so soon.
        steps = [{4}, {5}, set(), {5}, {5}, {6}, set(), set()]
        self.assertEqual(shortest(chart_of(Plain(3, {0, 3}, {6}, steps))), [3, 5, 6])
        self.assertEqual(shortest(chart_of(Plain(3, {0, 1, 3}, {6}, steps))), [1, 5, 6])
        # The least next stand leads nowhere.
        steps = [{1, 2, 3}, set(), {6}, {5}, set(), {4}, {4}, set()]
        self.assertEqual(shortest(chart_of(Plain(3, {0}, {4}, steps))), [0, 2, 6, 4])

    def test_all_steps(self):
        for many in range(1, 7):
            size = 2 ** many
            whole = [set(range(size)) for _ in range(size)]
            for start, bad in itertools.product((0, 1, size - 1), repeat=2):
                way = [start] if start == bad else [start, bad]
                self.assertEqual(shortest(chart_of(Plain(many, {start}, {bad}, whole))), way)

    def test_never_longer_than_the_nearest(self):
        for plain in DRAWN:
            way, steps = shortest(chart_of(plain)), due_nearest(plain)
            self.assertEqual(way is None, steps is None)
            if way is not None:
                self.assertEqual(len(way), steps + 1)
                self.assertIn(way[0], plain.starts)
                self.assertIn(way[-1], plain.bads)
                for one, other in zip(way, way[1:]):
                    self.assertIn(other, plain.steps[one])


class Stays(Case):
    def test_told_lists_may_be_changed(self):
        for plain in DRAWN[::5]:
            chart = chart_of(plain)
            due = all_told(chart)
            kept = layers(chart)
            for change in (list.clear, list.reverse, lambda told: told.append(9)):
                change(layers(chart))
                if due[3] is not None:
                    change(shortest(chart))
                self.assertEqual(all_told(chart), due)
            self.assertEqual(kept, due[0])

    def test_the_chart_stays(self):
        after = [0b0110, 0b1000, 0b1000, 0b0001]
        chart = Chart(2, 1, 8, after)
        self.assertEqual(all_told(chart), ([1, 7, 15], 15, 2, [0, 1, 3]))
        self.assertEqual(all_told(chart), ([1, 7, 15], 15, 2, [0, 1, 3]))
        self.assertEqual((chart.many, chart.starts, chart.bads), (2, 1, 8))
        self.assertEqual(after, [0b0110, 0b1000, 0b1000, 0b0001])


if __name__ == "__main__":
    unittest.main()
