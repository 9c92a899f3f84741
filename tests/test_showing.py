"""Point 7: how formulas are written."""

import unittest

from evernever.formulas import And, Either, Lamp, Not, Or, Sure
from trees import A, B, NAMES, TREES, YES, built, due_text

# A part, and how it is written in each of Not, And, Either, Or (a joined one beside `c`).
IN_OTHERS = [
    (A, "not a", "a and c", "a either c", "a or c"),
    (YES, "not yes", "yes and c", "yes either c", "yes or c"),
    (("not", A), "not not a", "not a and c", "not a either c", "not a or c"),
    (("and", A, B), "not (a and b)", "(a and b) and c", "a and b either c", "a and b or c"),
    (("either", A, B), "not (a either b)", "(a either b) and c", "(a either b) either c", "a either b or c"),
    (("or", A, B), "not (a or b)", "(a or b) and c", "(a or b) either c", "(a or b) or c"),
]

EIGHT_WORDS_BEGIN = ["andy", "order", "notes", "eithers", "yesyes", "nobody"]
EIGHT_WORDS_BEGIN_TOO = ["thence", "island", "isis", "nono", "nota", "ora"]


def turned(text, word):
    """`x word c` told as `c word x`."""
    first = text[:-len(f" {word} c")]
    return f"c {word} {first}"


class Sorts(unittest.TestCase):
    def test_each_sort(self):
        names = ["left", "right", "up"]
        lamps = [Lamp(0), Lamp(1), Lamp(2)]
        self.assertEqual(Lamp(0).shown(names), "left")
        self.assertEqual(Lamp(2).shown(names), "up")
        self.assertEqual(Sure(True).shown(names), "yes")
        self.assertEqual(Sure(False).shown(names), "no")
        self.assertEqual(Not(Lamp(1)).shown(names), "not right")
        self.assertEqual(And(lamps[:2]).shown(names), "left and right")
        self.assertEqual(Or(lamps).shown(names), "left or right or up")
        self.assertEqual(Either(lamps).shown(names), "left either right either up")

    def test_parts_keep_their_order_and_come_as_often(self):
        parts = [Lamp(2), Lamp(0), Lamp(2), Sure(False), Lamp(1), Lamp(0)]
        self.assertEqual(And(parts).shown(NAMES), "c and a and c and no and b and a")
        self.assertEqual(Or(parts).shown(NAMES), "c or a or c or no or b or a")
        self.assertEqual(Either(parts).shown(NAMES), "c either a either c either no either b either a")

    def test_the_example(self):
        self.assertEqual(And([Lamp(0), Or([Lamp(1), Lamp(2)])]).shown(NAMES), "a and (b or c)")


class Brackets(unittest.TestCase):
    def test_each_part_in_each_sort(self):
        for tree, in_not, in_and, in_either, in_or in IN_OTHERS:
            with self.subTest(part=tree):
                part, c = built(tree), Lamp(2)
                self.assertEqual(Not(part).shown(NAMES), in_not)
                self.assertEqual(And([part, c]).shown(NAMES), in_and)
                self.assertEqual(And([c, part]).shown(NAMES), turned(in_and, "and"))
                self.assertEqual(Either([part, c]).shown(NAMES), in_either)
                self.assertEqual(Either([c, part]).shown(NAMES), turned(in_either, "either"))
                self.assertEqual(Or([part, c]).shown(NAMES), in_or)
                self.assertEqual(Or([c, part]).shown(NAMES), turned(in_or, "or"))

    def test_each_part_in_the_middle(self):
        both = ("and", A, B)
        self.assertEqual(built(("and", A, both, B)).shown(NAMES), "a and (a and b) and b")
        self.assertEqual(built(("either", A, both, B)).shown(NAMES), "a either a and b either b")
        self.assertEqual(built(("or", A, both, B)).shown(NAMES), "a or a and b or b")

    def test_several_depths(self):
        inner = Not(Or([And([Lamp(0), Either([Lamp(1), Sure(True)])]), Not(Not(Lamp(2)))]))
        self.assertEqual(inner.shown(NAMES), "not (a and (b either yes) or not not c)")
        outer = Either([Or([inner, Lamp(3)]), And([inner, inner])])
        text = "not (a and (b either yes) or not not c)"
        self.assertEqual(outer.shown(NAMES), f"({text} or d) either {text} and {text}")

    def test_against_trees(self):
        for tree in TREES:
            text = built(tree).shown(NAMES)
            self.assertIs(type(text), str)
            self.assertEqual(text, due_text(tree, NAMES), tree)


class Names(unittest.TestCase):
    def setUp(self):
        self.formula = Or([And([Lamp(0), Not(Lamp(1))]), Either([Lamp(0), Lamp(1)]), Lamp(0)])

    def test_other_names_and_the_first_again(self):
        first, other = ["x", "y"], ["y", "x"]
        for names in (first, other, first, ["p", "q", "r"], first):
            p, q = names[0], names[1]
            self.assertEqual(self.formula.shown(names), f"{p} and not {q} or {p} either {q} or {p}")

    def test_one_and_eight_letters(self):
        text = self.formula.shown(["z", "abcdefgh"])
        self.assertEqual(text, "z and not abcdefgh or z either abcdefgh or z")

    def test_names_that_begin_alike(self):
        names = ["a", "aa", "aaa", "ab", "aaaaaaaa", "b"]
        for at in (0, 1, 2, 3, 4, 5):
            self.assertEqual(Lamp(at).shown(names), names[at])
        self.assertEqual(And([Lamp(at) for at in range(6)]).shown(names), " and ".join(names))

    def test_names_that_begin_with_the_eight_words(self):
        for names in (EIGHT_WORDS_BEGIN, EIGHT_WORDS_BEGIN_TOO):
            for tree in TREES:
                self.assertEqual(built(tree).shown(names), due_text(tree, names))
        formula = Not(Or([Lamp(2), Lamp(1), Lamp(0)]))
        self.assertEqual(formula.shown(EIGHT_WORDS_BEGIN), "not (notes or order or andy)")

    def test_just_enough_names_and_more(self):
        for many in range(2, 7):
            self.assertEqual(And([Lamp(1), Lamp(0)]).shown(NAMES[:many]), "b and a")
        self.assertEqual(Not(Sure(True)).shown(["a"]), "not yes")


if __name__ == "__main__":
    unittest.main()
