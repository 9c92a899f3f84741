"""Points 2, 3, 10 and 11: charts, and what lies ahead of a crowd and behind it."""

import random
import unittest

from evernever.charts import Chart
from evernever.errors import NoChart
from plain import Case, chart_of, crowd_in, drawn_charts, ring

MANYS = range(1, 7)


def every(many):
    return 2 ** 2 ** many - 1


def good(many):
    return [many, 1, 2, [1] * 2 ** many]


class Made(Case):
    def test_fields(self):
        for many in MANYS:
            for starts, bads in ((0, 0), (1, 2), (every(many), 0), (0, every(many)), (every(many), every(many))):
                chart = Chart(many, starts, bads, [every(many)] * 2 ** many)
                self.assertEqual((chart.many, chart.starts, chart.bads), (many, starts, bads))
                self.assertEqual({type(chart.many), type(chart.starts), type(chart.bads)}, {int})
                chart = Chart(many, starts, bads, [0] * 2 ** many)
                self.assertEqual((chart.many, chart.starts, chart.bads), (many, starts, bads))


class Refused(Case):
    def check(self, *handed):
        self.refused(NoChart, Chart, *handed)
        chart = Chart(1, 1, 2, [2, 0])
        self.assertEqual((chart.many, chart.starts, chart.bads, chart.ahead(1)), (1, 1, 2, 2))

    def test_many(self):
        # All the rest as it would fit.
        self.check(0, 0, 0, [0])
        self.check(0, 1, 1, [1])
        self.check(7, 1, 2, [1] * 128)
        self.check(8, 1, 2, [1] * 256)
        self.check(-1, 0, 0, [])
        self.check(-1, 0, 0, [0])
        self.check(True, 1, 2, [1, 1])
        self.check(False, 0, 0, [0])
        for many in ("1", "a", "", None, [1], (1,), 1.0, 10 ** 299, -10 ** 299):
            self.check(many, 1, 2, [1, 1])

    def test_starts_bads_and_things_of_the_list(self):
        for many in MANYS:
            for wrong in (-1, every(many) + 1, -every(many), 2 ** 2 ** many * 3, 10 ** 299, True, False, None,
                          "1", 1.0, [0]):
                self.check(many, wrong, 2, [1] * 2 ** many)
                self.check(many, 1, wrong, [1] * 2 ** many)
                for place in {0, 2 ** many // 2, 2 ** many - 1}:
                    after = [1] * 2 ** many
                    after[place] = wrong
                    self.check(many, 1, 2, after)

    def test_the_list(self):
        for many in MANYS:
            size = 2 ** many
            for wrong in ([1] * (size - 1), [1] * (size + 1), [], [1] * (2 * size), (1,) * size, None, 1,
                          "1" * size, {stand: 1 for stand in range(size)}, range(size), "", ()):
                self.check(many, 1, 2, wrong)

    def test_crowds_that_fit_a_greater_number_of_lamps_alone(self):
        self.check(1, 4, 0, [0, 0])
        self.check(2, 0, 16, [0, 0, 0, 0])
        self.check(5, 0, 0, [0] * 31 + [2 ** 32])
        Chart(2, 4, 0, [0, 0, 0, 0])
        Chart(6, 0, 0, [2 ** 32] * 64)

    def test_several_faults(self):
        self.check(0, -1, True, None)
        self.check(True, None, None, ())

    def test_what_is_handed_in_stays(self):
        for wrong in (-1, True, None):
            after = [1, wrong]
            self.check(1, 1, 1, after)
            self.assertEqual(after, [1, wrong])
            self.assertIs(after[1], wrong)


class Stays(Case):
    def test_the_list_stays_and_may_be_changed(self):
        for plain in drawn_charts(20, [4, 4, 4, 2, 2, 2]):
            after = [crowd_in(onto) for onto in plain.steps]
            copy = list(after)
            chart = Chart(plain.many, crowd_in(plain.starts), crowd_in(plain.bads), after)
            every_stand = [2 ** stand for stand in range(2 ** plain.many)]
            due = [(chart.ahead(one), chart.behind(one)) for one in every_stand]
            self.assertEqual(after, copy)
            for change in (after.reverse, lambda: after.append(1), after.clear):
                change()
                self.assertEqual([(chart.ahead(one), chart.behind(one)) for one in every_stand], due)
                self.assertEqual(chart.many, plain.many)
                self.assertEqual([chart.ahead(one) for one in every_stand], copy)


class AheadAndBehind(Case):
    def check(self, plain, chart, stands):
        crowd = crowd_in(stands)
        ahead, behind = chart.ahead(crowd), chart.behind(crowd)
        self.whole(ahead)
        self.whole(behind)
        self.assertEqual(ahead, crowd_in(onto for stand in stands for onto in plain.steps[stand]))
        self.assertEqual(behind, crowd_in(stand for stand, onto in enumerate(plain.steps) if onto & set(stands)))

    def test_by_hand(self):
        # 0 -> 1, 1 -> 1 and 2, 2 -> nowhere, 3 -> 3.
        chart = Chart(2, 1, 4, [0b0010, 0b0110, 0, 0b1000])
        self.assertEqual([chart.ahead(crowd) for crowd in (0, 1, 2, 4, 8, 15, 9)], [0, 2, 6, 0, 8, 14, 10])
        self.assertEqual([chart.behind(crowd) for crowd in (0, 1, 2, 4, 8, 15, 6)], [0, 0, 3, 2, 8, 11, 3])

    def test_drawn(self):
        draw = random.Random(21)
        for plain in drawn_charts(22, [20, 20, 20, 20, 10, 10]):
            chart = chart_of(plain)
            every_stand = list(range(2 ** plain.many))
            self.check(plain, chart, [])
            self.check(plain, chart, every_stand)
            for stand in every_stand:
                self.check(plain, chart, [stand])
            for _ in range(20):
                self.check(plain, chart, draw.sample(every_stand, draw.randrange(len(every_stand) + 1)))

    def test_steps_of_a_stand_to_itself(self):
        for many in MANYS:
            chart = Chart(many, 0, 0, [2 ** stand for stand in range(2 ** many)])
            for crowd in {0, 1, 2, 3, every(many), every(many) // 3}:
                self.assertEqual((chart.ahead(crowd), chart.behind(crowd)), (crowd, crowd))

    def test_two_charts_in_turn(self):
        for many in MANYS:
            one, other = ring(many, [0], [1]), drawn_charts(many, [0] * (many - 1) + [1])[0]
            first, second = chart_of(one), chart_of(other)
            for stand in range(2 ** many):
                self.check(one, first, [stand])
                self.check(other, second, [stand])
                self.check(one, first, range(stand))
                self.check(other, second, range(stand))


if __name__ == "__main__":
    unittest.main()
