"""Point 2: what is handed in or told stays as it is."""

import itertools
import unittest

from evernever.formulas import And, Either, Lamp, Not, Or, Sure
from evernever.words import words
from trees import NAMES, NESTED, built, due_crowd, due_lamps, due_text, due_truth, manys

JOINED = [And, Or, Either]


def all_told(formula, names):
    return (
        [formula.holds(stand) for stand in range(64)],
        [formula.crowd(many) for many in range(4, 7)],
        formula.lamps(),
        formula.shown(names),
    )


class HandedIn(unittest.TestCase):
    def test_a_list_of_parts_stays(self):
        for sort in JOINED:
            parts = [Lamp(3), Not(Lamp(1)), Lamp(3), Sure(True)]
            copy = list(parts)
            all_told(sort(parts), NAMES)
            self.assertIs(type(parts), list)
            self.assertEqual([id(part) for part in parts], [id(part) for part in copy])

    def test_a_list_of_names_stays(self):
        names = ["up", "down", "left", "right", "on", "off"]
        for tree in NESTED:
            built(tree).shown(names)
        self.assertEqual(names, ["up", "down", "left", "right", "on", "off"])


class ChangedBehind(unittest.TestCase):
    def check(self, change):
        for sort in JOINED:
            with self.subTest(sort=sort.__name__):
                due = all_told(sort([Lamp(2), Lamp(0), Not(Lamp(3))]), NAMES)
                parts = [Lamp(2), Lamp(0), Not(Lamp(3))]
                formula = sort(parts)
                outer = Not(formula)
                due_outer = all_told(Not(sort(list(parts))), NAMES)
                change(parts)
                self.assertEqual(all_told(formula, NAMES), due)
                self.assertEqual(all_told(outer, NAMES), due_outer)
                change(parts)
                self.assertEqual(all_told(formula, NAMES), due)

    def test_made_empty(self):
        self.check(lambda parts: parts.clear())

    def test_added_to(self):
        self.check(lambda parts: parts.append(Lamp(1)))

    def test_turned_round(self):
        self.check(lambda parts: parts.reverse())

    def test_replaced(self):
        def replaced(parts):
            parts[0] = Sure(False)
        self.check(replaced)

    def test_one_list_used_for_several(self):
        parts = [Lamp(0), Lamp(1)]
        first = And(parts)
        parts.append(Lamp(2))
        second = Or(parts)
        parts.append(first)
        third = Either(parts)
        parts.clear()
        self.assertEqual(first.shown(NAMES), "a and b")
        self.assertEqual(second.shown(NAMES), "a or b or c")
        self.assertEqual(third.shown(NAMES), "a either b either c either a and b")

    def test_names_changed_between(self):
        names = ["x", "y"]
        formula = And([Lamp(0), Lamp(1)])
        self.assertEqual(formula.shown(names), "x and y")
        names[0] = "z"
        self.assertEqual(formula.shown(names), "z and y")


class Told(unittest.TestCase):
    def test_lamps_are_the_askers_own(self):
        part = Lamp(1)
        for formula in (part, Sure(True), Not(part), Not(Sure(False)), Not(Not(part)),
                        And([part, Lamp(0)]), Or([part, part]), Either([Not(part), And([part, part])])):
            due = list(formula.lamps())
            told, earlier = formula.lamps(), formula.lamps()
            self.assertIsNot(told, earlier)
            told.append(5)
            told.insert(0, 4)
            self.assertEqual(formula.lamps(), due)
            self.assertEqual(earlier, due)
            formula.lamps().clear()
            self.assertEqual(formula.lamps(), due)
            self.assertEqual(part.lamps(), [1])

    def test_lamps_of_a_part_and_of_the_whole(self):
        part = And([Lamp(0), Lamp(2)])
        whole = Not(part)
        whole.lamps().clear()
        self.assertEqual(part.lamps(), [0, 2])
        part.lamps().append(3)
        self.assertEqual(whole.lamps(), [0, 2])

    def test_words_are_the_askers_own(self):
        for text, due in (("a and (b)", ["a", "and", "(", "b", ")"]), ("", []), ("  ", [])):
            told, earlier = words(text), words(text)
            self.assertIsNot(told, earlier)
            told.append("more")
            told.reverse()
            self.assertEqual(words(text), due)
            self.assertEqual(earlier, due)
            words(text).clear()
            self.assertEqual(words(text), due)


class Shared(unittest.TestCase):
    def test_a_part_of_several_tells_the_same(self):
        for tree in [tree for tree in NESTED if max(due_lamps(tree), default=0) < 4]:
            part = built(tree)
            due = all_told(built(tree), NAMES)
            others = [Not(part), And([part, Lamp(0)]), Or([Lamp(1), part]), Either([part, part]), And([part, part])]
            for other in others:
                other.holds(3), other.crowd(6), other.lamps(), other.shown(NAMES)
            self.assertEqual(all_told(part, NAMES), due)
            self.assertEqual(part.crowd(6), due_crowd(tree, 6))
            self.assertEqual(part.shown(NAMES), due_text(tree, NAMES))

    def test_twice_in_one(self):
        part = Or([Lamp(0), Lamp(1)])
        self.assertEqual(Either([part, part]).crowd(2), 0)
        self.assertEqual(Either([part, part, part]).crowd(2), 0b1110)
        self.assertEqual(And([part, part]).crowd(2), 0b1110)
        self.assertEqual(And([part, part]).shown(NAMES), "(a or b) and (a or b)")
        self.assertEqual(part.shown(NAMES), "a or b")
        self.assertEqual(part.crowd(2), 0b1110)
        self.assertEqual(part.lamps(), [0, 1])


class InAnyOrder(unittest.TestCase):
    def test_questions_in_each_order(self):
        other = ["u", "v", "w", "x", "y", "z"]
        for tree in NESTED[::12]:
            questions = [
                (lambda formula: formula.holds(0), due_truth(tree, 0)),
                (lambda formula: formula.holds(63), due_truth(tree, 63)),
                (lambda formula: formula.crowd(6), due_crowd(tree, 6)),
                (lambda formula: formula.crowd(manys(tree)[0]), due_crowd(tree, manys(tree)[0])),
                (lambda formula: formula.shown(NAMES), due_text(tree, NAMES)),
                (lambda formula: formula.shown(other), due_text(tree, other)),
            ]
            formula = built(tree)
            for order in itertools.permutations(questions, 3):
                for question, due in order:
                    self.assertEqual(question(formula), due, tree)
                self.assertEqual(formula.lamps(), due_lamps(tree))

    def test_each_many_up_and_down(self):
        formula = Or([And([Lamp(0), Sure(True)]), Not(Lamp(0))])
        lamp = Lamp(0)
        for many in (1, 6, 2, 5, 1, 3, 4, 6, 1):
            self.assertEqual(formula.crowd(many), 2 ** 2 ** many - 1)
            self.assertEqual(lamp.crowd(many), sum(2 ** stand for stand in range(1, 2 ** many, 2)))


if __name__ == "__main__":
    unittest.main()
