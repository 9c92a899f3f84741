"""Points 3, 5 and 6: where formulas hold, their crowds and their lamps."""

import unittest

from evernever.formulas import And, Either, Formula, Lamp, Not, Or, Sure
from trees import TREES, built, due_crowd, due_lamps, due_truth, manys

SORTS = [
    (Lamp, Lamp(0)), (Sure, Sure(True)), (Not, Not(Lamp(0))), (And, And([Lamp(0), Lamp(1)])),
    (Or, Or([Lamp(0), Lamp(1)])), (Either, Either([Lamp(0), Lamp(1)])),
]


def where(formula, stands):
    return [stand for stand in stands if formula.holds(stand)]


class Sorts(unittest.TestCase):
    def test_each_sort_is_a_formula_and_of_no_other_sort(self):
        for sort, formula in SORTS:
            with self.subTest(sort=sort.__name__):
                self.assertIsInstance(formula, Formula)
                self.assertEqual([other for other, _ in SORTS if isinstance(formula, other)], [sort])

    def test_formula_is_made_of_nothing(self):
        self.assertIsInstance(Formula(), Formula)


class ByHand(unittest.TestCase):
    def test_lamp_holds_where_its_bit_is_one(self):
        for at in range(6):
            for stand in range(64):
                with self.subTest(at=at, stand=stand):
                    self.assertIs(Lamp(at).holds(stand), stand // 2 ** at % 2 == 1)

    def test_sure_holds_as_it_says(self):
        for stand in range(64):
            self.assertIs(Sure(True).holds(stand), True)
            self.assertIs(Sure(False).holds(stand), False)

    def test_few_lamps(self):
        a, b, c = Lamp(0), Lamp(1), Lamp(2)
        eight = range(8)
        self.assertEqual(where(Not(a), eight), [0, 2, 4, 6])
        self.assertEqual(where(And([a, b]), eight), [3, 7])
        self.assertEqual(where(And([a, b, c]), eight), [7])
        self.assertEqual(where(Or([a, b]), eight), [1, 2, 3, 5, 6, 7])
        self.assertEqual(where(Or([a, b, c]), eight), [1, 2, 3, 4, 5, 6, 7])
        self.assertEqual(where(Either([a, b]), eight), [1, 2, 5, 6])
        self.assertEqual(where(Either([a, b, c]), eight), [1, 2, 4, 7])
        self.assertEqual(where(Either([a, a]), eight), [])
        self.assertEqual(where(Either([a, a, a]), eight), [1, 3, 5, 7])

    def test_either_counts_all_its_parts(self):
        for many in range(2, 7):
            either = Either([Lamp(at) for at in range(many)])
            for stand in range(64):
                lit = bin(stand % 2 ** many).count("1")
                self.assertIs(either.holds(stand), lit % 2 == 1)

    def test_either_of_many_that_hold(self):
        for many in range(2, 12):
            self.assertIs(Either([Sure(True)] * many).holds(5), many % 2 == 1)
            self.assertEqual(Either([Sure(True)] * many).crowd(2), 15 * (many % 2))

    def test_crowds(self):
        self.assertEqual(Lamp(0).crowd(1), 0b10)
        self.assertEqual(Lamp(0).crowd(2), 0b1010)
        self.assertEqual(Lamp(1).crowd(2), 0b1100)
        self.assertEqual(Lamp(2).crowd(3), 0b11110000)
        self.assertEqual(Not(Lamp(1)).crowd(2), 0b0011)
        self.assertEqual(And([Lamp(0), Lamp(1)]).crowd(2), 0b1000)
        self.assertEqual(Or([Lamp(0), Lamp(1)]).crowd(2), 0b1110)
        self.assertEqual(Either([Lamp(0), Lamp(1)]).crowd(2), 0b0110)
        self.assertEqual(Lamp(5).crowd(6), 2 ** 64 - 2 ** 32)

    def test_crowds_of_sures(self):
        for many in range(1, 7):
            self.assertEqual(Sure(True).crowd(many), 2 ** 2 ** many - 1)
            self.assertEqual(Sure(False).crowd(many), 0)
            self.assertEqual(Not(Sure(True)).crowd(many), 0)
            self.assertEqual(Not(Sure(False)).crowd(many), 2 ** 2 ** many - 1)

    def test_lamps_rise_and_come_once(self):
        self.assertEqual(Lamp(4).lamps(), [4])
        self.assertEqual(Not(Lamp(3)).lamps(), [3])
        self.assertEqual(And([Lamp(5), Lamp(0), Lamp(3)]).lamps(), [0, 3, 5])
        self.assertEqual(Either([Lamp(2), Lamp(1), Lamp(2), Not(Lamp(1))]).lamps(), [1, 2])
        self.assertEqual(Or([And([Lamp(4), Lamp(2)]), Lamp(3), Or([Lamp(2), Lamp(0)])]).lamps(), [0, 2, 3, 4])

    def test_lamps_of_none(self):
        self.assertEqual(Sure(True).lamps(), [])
        self.assertEqual(Not(Sure(False)).lamps(), [])
        for sort in (And, Or, Either):
            self.assertEqual(sort([Sure(False), Not(Sure(True)), Sure(True)]).lamps(), [])

    def test_lamps_count_where_they_do_not_matter(self):
        self.assertEqual(And([Sure(False), Lamp(2)]).lamps(), [2])
        self.assertEqual(Or([Sure(True), Lamp(5)]).lamps(), [5])
        self.assertEqual(Either([Lamp(1), Lamp(1)]).lamps(), [1])


class AgainstTrees(unittest.TestCase):
    def test_holds_at_each_stand(self):
        for tree in TREES:
            formula = built(tree)
            told = [formula.holds(stand) for stand in range(64)]
            self.assertEqual({type(truth) for truth in told}, {bool}, tree)
            self.assertEqual(told, [due_truth(tree, stand) for stand in range(64)], tree)

    def test_crowd_for_each_many(self):
        for tree in TREES:
            formula = built(tree)
            for many in manys(tree):
                crowd = formula.crowd(many)
                self.assertIs(type(crowd), int)
                self.assertEqual(crowd, due_crowd(tree, many), (tree, many))

    def test_crowd_says_bit_for_bit_what_holds_says(self):
        for tree in TREES:
            formula = built(tree)
            for many in manys(tree):
                bits = [formula.crowd(many) >> stand & 1 == 1 for stand in range(2 ** many)]
                self.assertEqual(bits, [formula.holds(stand) for stand in range(2 ** many)], (tree, many))
                self.assertEqual(formula.crowd(many) >> 2 ** many, 0)

    def test_lamps(self):
        for tree in TREES:
            lamps = built(tree).lamps()
            self.assertIs(type(lamps), list)
            self.assertEqual([type(at) for at in lamps], [int] * len(lamps))
            self.assertEqual(lamps, due_lamps(tree), tree)


if __name__ == "__main__":
    unittest.main()
