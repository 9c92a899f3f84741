"""Points 2, 14 and 15: moves and machines."""

import itertools
import random
import unittest

from evernever.charts import Chart
from evernever.errors import NoStep
from evernever.formulas import And, Lamp, Not, Or, Sure
from evernever.machines import Machine, Move
from plain import Case, crowd_in, drawn_machines, drawn_move, due_chart, due_onward, machine_from, move_of
from trees import NAMES, due_truth

DRAWN = drawn_machines(40, [30, 40, 40, 30, 20, 15])


class Moves(Case):
    def test_fits_where_the_guard_holds(self):
        move = Move(Or([Lamp(0), Lamp(1)]), [(0, Sure(True))])
        self.assertEqual([move.fits(stand) for stand in range(4)], [False, True, True, True])
        for stand in range(4):
            self.assertIs(type(move.fits(stand)), bool)

    def test_onward_by_hand(self):
        self.assertEqual([Move(Sure(True), [(0, Sure(True))]).onward(stand) for stand in range(4)], [1, 1, 3, 3])
        self.assertEqual([Move(Sure(True), [(1, Sure(False))]).onward(stand) for stand in range(4)], [0, 1, 0, 1])
        self.assertEqual([Move(Sure(True), [(1, Not(Lamp(1)))]).onward(stand) for stand in range(4)], [2, 3, 0, 1])

    def test_each_formula_is_asked_at_the_stand_as_it_was(self):
        for changes in itertools.permutations([(0, Lamp(1)), (1, Lamp(0))]):
            self.assertEqual([Move(Sure(True), list(changes)).onward(stand) for stand in range(4)], [0, 2, 1, 3])
        turned = [(lamp, Lamp((lamp + 1) % 6)) for lamp in range(6)]
        for changes in (turned, turned[::-1], turned[3:] + turned[:3]):
            move = Move(Sure(True), changes)
            for stand in range(64):
                self.assertEqual(move.onward(stand), stand // 2 + 32 * (stand % 2))

    def test_onward_where_it_does_not_fit(self):
        move = Move(Sure(False), [(0, Not(Lamp(0)))])
        self.assertEqual([(move.fits(stand), move.onward(stand)) for stand in range(4)],
                         [(False, 1), (False, 0), (False, 3), (False, 2)])

    def test_drawn(self):
        draw = random.Random(41)
        for _ in range(300):
            many = draw.randrange(1, 7)
            plain = drawn_move(draw, many)
            move = move_of(*plain)
            for stand in range(2 ** many):
                self.assertIs(move.fits(stand), due_truth(plain[0], stand))
                self.whole(move.onward(stand))
                self.assertEqual(move.onward(stand), due_onward(plain, stand))

    def test_the_list_of_changes_stays_and_may_be_made_empty(self):
        draw = random.Random(42)
        for _ in range(60):
            plain = drawn_move(draw, 4)
            due = [due_onward(plain, stand) for stand in range(16)]
            changes = [(lamp, formula) for lamp, formula in move_of(*plain).changes]
            copy = list(changes)
            move = Move(Sure(True), changes)
            self.assertEqual([move.onward(stand) for stand in range(16)], due)
            self.assertEqual(changes, copy)
            changes.reverse()
            self.assertEqual([move.onward(stand) for stand in range(16)], due)
            changes.clear()
            self.assertEqual([move.onward(stand) for stand in range(16)], due)


class Charts(Case):
    def check(self, machine, due):
        chart = machine.chart()
        self.assertIs(type(chart), Chart)
        self.assertEqual((chart.many, chart.starts, chart.bads), (due.many, crowd_in(due.starts), crowd_in(due.bads)))
        for stand in range(2 ** due.many):
            self.assertEqual(chart.ahead(2 ** stand), crowd_in(due.steps[stand]), stand)

    def test_drawn(self):
        for plain in DRAWN:
            self.check(machine_from(plain), due_chart(plain))

    def test_nothing_of_each(self):
        for many in range(1, 7):
            chart = Machine(NAMES[:many], [], [], []).chart()
            every = 2 ** 2 ** many - 1
            self.assertEqual((chart.many, chart.starts, chart.bads), (many, 0, 0))
            self.assertEqual((chart.ahead(every), chart.behind(every)), (0, 0))

    def test_several_starts_and_bads(self):
        machine = Machine(["a", "b"], [Lamp(0), Lamp(1)], [And([Lamp(0), Lamp(1)]), Not(Lamp(0)), Sure(False)], [])
        self.assertEqual((machine.chart().starts, machine.chart().bads), (0b1110, 0b1101))

    def test_lists_may_be_made_empty_behind(self):
        for plain in DRAWN[::3]:
            other = machine_from(plain)
            lists = [list(plain.names), list(other.starts), list(other.bads), list(other.moves)]
            copies = [list(some) for some in lists]
            machine = Machine(*lists)
            due = due_chart(plain)
            self.check(machine, due)
            self.assertEqual(lists, copies)
            for some in lists:
                some.clear()
            self.check(machine, due)
            self.check(machine, due)

    def test_two_machines_side_by_side(self):
        for one, other in zip(DRAWN[::2], DRAWN[1::2]):
            first, second = machine_from(one), machine_from(other)
            self.check(first, due_chart(one))
            self.check(second, due_chart(other))
            self.check(first, due_chart(one))


class Which(Case):
    def test_drawn(self):
        for plain in DRAWN:
            machine = machine_from(plain)
            stands = range(min(2 ** len(plain.names), 16))
            for stand in stands:
                leads = [due_onward(move, stand) if due_truth(move[0], stand) else None for move in plain.moves]
                for other in stands:
                    due = leads.index(other) if other in leads else None
                    told = machine.which(stand, other)
                    self.assertEqual(told, due)
                    self.assertIn(type(told), (int, type(None)))

    def test_a_move_that_does_not_fit_does_not_count(self):
        lit = [(0, Sure(True))]
        machine = Machine(["a"], [], [], [Move(Lamp(0), lit), Move(Sure(False), lit), Move(Not(Lamp(0)), lit)])
        self.assertEqual([machine.which(0, 1), machine.which(1, 1)], [2, 0])
        self.assertEqual([machine.which(0, 0), machine.which(1, 0)], [None, None])

    def test_the_first_of_several(self):
        lit, dark = Move(Sure(True), [(0, Sure(True))]), Move(Sure(True), [(0, Sure(False))])
        machine = Machine(["a"], [], [], [dark, lit, lit, dark])
        self.assertEqual([machine.which(0, 0), machine.which(0, 1), machine.which(1, 0), machine.which(1, 1)],
                         [0, 1, 0, 1])

    def test_no_moves(self):
        self.assertIsNone(Machine(["a"], [Sure(True)], [], []).which(0, 0))


class Walked(Case):
    def setUp(self):
        # Counts up by one on two lamps as long as not both are lit; the second puts both out where both are lit.
        up = Move(Not(And([Lamp(0), Lamp(1)])), [(0, Not(Lamp(0))), (1, Or([Lamp(0), Lamp(1)]))])
        down = Move(And([Lamp(0), Lamp(1)]), [(0, Sure(False)), (1, Sure(False))])
        self.machine = Machine(["a", "b"], [], [], [up, down])

    def test_no_pick(self):
        for stand in range(4):
            self.assertEqual(self.machine.walked(stand, []), [stand])
        self.assertEqual(Machine(["a"], [], [], []).walked(1, []), [1])

    def test_by_hand(self):
        self.assertEqual(self.machine.walked(0, [0, 0, 0, 1]), [0, 1, 2, 3, 0])
        self.assertEqual(self.machine.walked(2, [0, 1, 0]), [2, 3, 0, 1])

    def test_many_picks(self):
        self.assertEqual(self.machine.walked(0, [0, 0, 0, 1] * 250), [0, 1, 2, 3] * 250 + [0])

    def test_drawn(self):
        draw = random.Random(43)
        walks = 0
        for plain in DRAWN:
            machine = machine_from(plain)
            for _ in range(10):
                passed, picks = [draw.randrange(2 ** len(plain.names))], []
                while len(picks) < 12:
                    fitting = [at for at, move in enumerate(plain.moves) if due_truth(move[0], passed[-1])]
                    if not fitting:
                        break
                    picks.append(draw.choice(fitting))
                    passed.append(due_onward(plain.moves[picks[-1]], passed[-1]))
                copy = list(picks)
                told = machine.walked(passed[0], picks)
                self.assertIs(type(told), list)
                self.assertEqual({type(stand) for stand in told}, {int})
                self.assertEqual(told, passed)
                self.assertEqual(picks, copy)
                walks += len(picks) > 2
        self.assertGreater(walks, 300)

    def test_picks_that_are_no_moves(self):
        good = [0, 0, 0, 1, 0, 0]
        for wrong in (-1, -2, -3, 2, 3, 8, 10 ** 29, -10 ** 29):
            self.refused(NoStep, self.machine.walked, 0, [wrong])
            for place in range(len(good) + 1):
                picks = good[:place] + [wrong] + good[place:]
                copy = list(picks)
                self.refused(NoStep, self.machine.walked, 0, picks)
                self.assertEqual(picks, copy)
                self.assertEqual(self.machine.walked(0, good), [0, 1, 2, 3, 0, 1, 2])
        self.refused(NoStep, Machine(["a"], [], [], []).walked, 0, [0])
        fitting = Machine(["a"], [], [], [Move(Sure(True), [(0, Sure(True))]), Move(Sure(True), [(0, Sure(False))])])
        for wrong in (-1, -2, -3, 2, 3):
            for picks in ([wrong], [wrong, 0], [0, wrong], [0, wrong, 1], [1, 0, wrong]):
                self.refused(NoStep, fitting.walked, 0, picks)

    def test_moves_that_do_not_fit(self):
        self.refused(NoStep, self.machine.walked, 0, [1])
        self.refused(NoStep, self.machine.walked, 3, [0])
        self.refused(NoStep, self.machine.walked, 0, [0, 1, 0])
        self.refused(NoStep, self.machine.walked, 0, [1, 0, 0])
        self.refused(NoStep, self.machine.walked, 0, [0, 0, 0, 0])
        self.refused(NoStep, self.machine.walked, 0, [0, 0, 0, 1, 1])
        self.assertEqual(self.machine.walked(0, [0, 0, 0, 1]), [0, 1, 2, 3, 0])

    def test_told_lists_may_be_changed(self):
        told, earlier = self.machine.walked(0, [0, 0]), self.machine.walked(0, [0, 0])
        told.clear()
        self.assertEqual(earlier, [0, 1, 2])
        earlier.append(9)
        self.assertEqual(self.machine.walked(0, [0, 0]), [0, 1, 2])


if __name__ == "__main__":
    unittest.main()
