"""Points 2, 7, 8, 16 and 17: machines written as lines, and read from lines."""

import random
import unittest

from evernever.formulas import And, Lamp, Not, Or, Sure
from evernever.lines import machine_of, written
from evernever.machines import Machine, Move
from plain import Case, crowd_in, drawn_machines, due_chart, due_lines, machine_from
from trees import NAMES, with_blanks

DRAWN = drawn_machines(50, [30, 40, 40, 30, 20, 15])


class Written(Case):
    def check(self, machine, due):
        told = written(machine)
        self.assertIs(type(told), list)
        self.assertEqual({type(line) for line in told}, {str})
        self.assertEqual(told, due)

    def test_by_hand(self):
        a, b = Lamp(0), Lamp(1)
        machine = Machine(["a", "b"], [Not(Or([a, b])), Sure(False)], [And([a, Or([b, a])])],
                          [Move(And([a, Not(b)]), [(0, b), (1, Not(a))]), Move(Sure(True), [(1, Or([a, b]))])])
        self.check(machine, [
            "lamps a b", "start not (a or b)", "start no", "bad a and (b or a)",
            "move a and not b then a is b, b is not a", "move yes then b is a or b",
        ])

    def test_names_alone(self):
        for many in range(1, 7):
            self.check(Machine(NAMES[:many], [], [], []), ["lamps " + " ".join(NAMES[:many])])

    def test_changes_in_their_order(self):
        changes = [(2, Lamp(0)), (0, Lamp(1)), (1, Sure(True))]
        self.check(Machine(["x", "y", "z"], [], [], [Move(Lamp(2), changes)]),
                   ["lamps x y z", "move z then z is x, x is y, y is yes"])

    def test_drawn(self):
        for plain in DRAWN:
            self.check(machine_from(plain), due_lines(plain))

    def test_the_told_list_may_be_changed(self):
        machine = machine_from(DRAWN[-1])
        told, earlier = written(machine), written(machine)
        told.clear()
        self.assertEqual(earlier, due_lines(DRAWN[-1]))
        earlier.reverse()
        self.check(machine, due_lines(DRAWN[-1]))

    def test_lists_of_the_machine_may_be_made_empty(self):
        for plain in DRAWN[::4]:
            other = machine_from(plain)
            changes = [list(move.changes) for move in other.moves]
            moves = [Move(move.guard, some) for move, some in zip(other.moves, changes)]
            lists = [list(plain.names), list(other.starts), list(other.bads), moves]
            machine = Machine(*lists)
            for some in lists + changes:
                some.clear()
            self.check(machine, due_lines(plain))


class Read(Case):
    def check(self, lines, plain):
        copy = list(lines)
        machine = machine_of(lines)
        self.assertIs(type(machine), Machine)
        self.assertEqual(lines, copy)
        lines.clear()
        self.assertEqual(written(machine), due_lines(plain))
        due, chart = due_chart(plain), machine.chart()
        self.assertEqual((chart.many, chart.starts, chart.bads), (due.many, crowd_in(due.starts), crowd_in(due.bads)))
        for stand in range(2 ** due.many):
            self.assertEqual(chart.ahead(2 ** stand), crowd_in(due.steps[stand]))

    def test_what_is_written(self):
        for plain in DRAWN:
            self.check(due_lines(plain), plain)
            self.check(written(machine_from(plain)), plain)

    def test_blanks_anywhere(self):
        draw = random.Random(51)
        for plain in DRAWN:
            self.check([with_blanks(draw, line) for line in due_lines(plain)], plain)

    def test_lines_in_any_order(self):
        draw = random.Random(52)
        for plain in DRAWN:
            lines = due_lines(plain)
            # Each sort in its own order, the sorts mixed.
            queues = [[line for line in lines[1:] if line.startswith(sort)] for sort in ("start", "bad", "move")]
            mixed = []
            while any(queues):
                mixed.append(draw.choice([queue for queue in queues if queue]).pop(0))
            self.check(lines[:1] + mixed, plain)

    def test_numbered_as_they_come(self):
        machine = machine_of(["lamps a b", "move yes then b is yes", "start a", "move yes then a is yes", "start b"])
        self.assertEqual(written(machine),
                         ["lamps a b", "start a", "start b", "move yes then b is yes", "move yes then a is yes"])
        self.assertEqual((machine.which(0, 2), machine.which(0, 1)), (0, 1))
        self.assertEqual(machine.walked(0, [1, 0]), [0, 1, 3])

    def test_without_blanks_beside_brackets_and_commas(self):
        machine = machine_of(["lamps a b", "start(a)", "bad(a)or(b)", "move(a)then a is(b),b is not(a)"])
        self.assertEqual(written(machine),
                         ["lamps a b", "start a", "bad a or b", "move a then a is b, b is not a"])

    def test_names_like_the_first_words_of_lines(self):
        lines = ["lamps lamps start bad move", "start lamps", "bad bad and start", "move move then move is lamps"]
        self.assertEqual(written(machine_of(list(lines))), lines)

    def test_more_than_eight_of_a_sort(self):
        lines = ["lamps a"] + ["start a"] * 9 + ["bad a"] * 9 + ["move a then a is no"] * 9
        self.assertEqual(written(machine_of(lines)), lines)

    def test_the_same_lines_again(self):
        lines = due_lines(DRAWN[-1])
        first, second = machine_of(lines), machine_of(lines)
        self.assertEqual(written(first), lines)
        self.assertEqual(written(second), lines)


if __name__ == "__main__":
    unittest.main()
