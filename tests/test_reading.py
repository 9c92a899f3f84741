"""Point 9: formulas read from texts."""

import random
import unittest

from evernever.formulas import And, Either, Lamp, Not, Or, Sure
from evernever.reading import read
from plain import Case
from trees import A, B, C, D, E, F, NAMES, NESTED, NO, TREES, YES, drawn_trees, due_text, due_truth, with_blanks

SORTS = {"lamp": Lamp, "sure": Sure, "not": Not, "and": And, "either": Either, "or": Or}

ABC = ["a", "b", "c"]


class ReadCase(Case):
    def check(self, text, tree, names=NAMES):
        formula = read(text, names)
        self.assertIs(type(formula), SORTS[tree[0]], text)
        # What is written tells formulas that are not alike apart, part by part.
        self.assertEqual(formula.shown(names), due_text(tree, names), text)
        for stand in range(2 ** len(names)):
            self.assertIs(formula.holds(stand), due_truth(tree, stand), (text, stand))
        return formula


class Sorts(ReadCase):
    def test_each_sort(self):
        self.check("a", A)
        self.check("f", F)
        self.check("yes", YES)
        self.check("no", NO)
        self.check("not a", ("not", A))
        self.check("a and b", ("and", A, B))
        self.check("a either b", ("either", A, B))
        self.check("a or b", ("or", A, B))

    def test_blanks_round_the_whole(self):
        for text in (" a", "a ", "   a    ", "(a)", "( a )", " (a) ", "(  a)"):
            self.check(text, A)

    def test_three_and_more_are_one_formula(self):
        for word in ("and", "either", "or"):
            for many in range(2, 9):
                parts = [[A, B, C, D, E, F][at % 6] for at in range(many)]
                self.check(f" {word} ".join(NAMES[at % 6] for at in range(many)), (word, *parts))
            self.check(f"b {word} a {word} b {word} yes", (word, B, A, B, YES))

    def test_four_hundred_parts(self):
        for word in ("and", "either", "or"):
            formula = read(f" {word} ".join(["a", "no"] * 200), NAMES)
            self.assertEqual(formula.shown(NAMES), f" {word} ".join(["a", "no"] * 200))
            self.assertIs(type(formula), SORTS[word])


class Binding(ReadCase):
    def test_not_binds_closest(self):
        for word in ("and", "either", "or"):
            self.check(f"not a {word} b", (word, ("not", A), B))
            self.check(f"a {word} not b", (word, A, ("not", B)))
            self.check(f"not a {word} not b {word} not c", (word, ("not", A), ("not", B), ("not", C)))
            self.check(f"not (a {word} b)", ("not", (word, A, B)))
            self.check(f"not not (a {word} b) {word} c", (word, ("not", ("not", (word, A, B))), C))

    def test_pairs(self):
        for close, loose in (("and", "either"), ("and", "or"), ("either", "or")):
            self.check(f"a {close} b {loose} c", (loose, (close, A, B), C))
            self.check(f"a {loose} b {close} c", (loose, A, (close, B, C)))
            self.check(f"a {close} b {loose} c {close} d", (loose, (close, A, B), (close, C, D)))
            self.check(f"a {loose} b {close} c {loose} d", (loose, A, (close, B, C), D))
            self.check(f"a {close} b {close} c {loose} d {loose} e", (loose, (close, A, B, C), D, E))
            self.check(f"a {close} (b {loose} c)", (close, A, (loose, B, C)))
            self.check(f"(a {loose} b) {close} c", (close, (loose, A, B), C))

    def test_all_together(self):
        self.check("a or b either c and not d", ("or", A, ("either", B, ("and", C, ("not", D)))))
        self.check("not a and b either c or d", ("or", ("either", ("and", ("not", A), B), C), D))
        self.check("a or b and c either d or e", ("or", A, ("either", ("and", B, C), D), E))
        self.check("a and b or c and d either e and f",
                   ("or", ("and", A, B), ("either", ("and", C, D), ("and", E, F))))

    def test_up_to_four_nots(self):
        tree = A
        for many in range(1, 5):
            tree = ("not", tree)
            self.check("not " * many + "a", tree)
            self.check("not " * many + "a and b", ("and", tree, B))
            self.check("b or " + "not " * many + "a", ("or", B, tree))
            self.check("not(" * many + "a" + ")" * many, tree)


class Brackets(ReadCase):
    def test_needless_ones_leave_nothing_behind(self):
        for many in range(1, 9):
            self.check("(" * many + "a" + ")" * many, A)
            self.check("(" * many + "not a" + ")" * many, ("not", A))
            self.check("(" * many + "a and b" + ")" * many, ("and", A, B))
            self.check("a or " + "(" * many + "b and c" + ")" * many, ("or", A, ("and", B, C)))
            self.check("(" * many + "yes" + ")" * many + " either a", ("either", YES, A))

    def test_a_formula_in_brackets_is_one_part(self):
        for word in ("and", "either", "or"):
            self.check(f"a {word} (b {word} c)", (word, A, (word, B, C)))
            self.check(f"(a {word} b) {word} c", (word, (word, A, B), C))
            self.check(f"a {word} (b {word} c) {word} d", (word, A, (word, B, C), D))
            self.check(f"(a {word} b) {word} (c {word} d)", (word, (word, A, B), (word, C, D)))
            self.check(f"a {word} (b) {word} c", (word, A, B, C))
            self.check(f"((a {word} b) {word} c)", (word, (word, A, B), C))

    def test_eight_open_at_once(self):
        for word in ("and", "either", "or"):
            text, tree = "a", A
            for depth in range(8):
                text, tree = f"b {word} ({text})", (word, B, tree)
                self.check(text, tree)
            text, tree = "a", A
            for depth in range(8):
                text, tree = f"({text}) {word} b", (word, tree, B)
                self.check(text, tree)

    def test_a_few_more_open_at_once(self):
        for many in range(9, 30):
            self.check("(" * many + "a" + ")" * many, A)

    def test_with_and_without_blanks(self):
        for text in ("not(a and b)or(c)", "not (a and b) or (c)", "not ( a and b ) or ( c )", " not(a and b )or( c) "):
            self.check(text, ("or", ("not", ("and", A, B)), C))
        for text in ("(a)and(b)", "(a)and b", "a and(b)", "( a )and( b )"):
            self.check(text, ("and", A, B))


class Names(ReadCase):
    def test_names_that_begin_with_the_eight_words(self):
        names = ["andy", "order", "nothing", "eitherx", "yesno", "isthen"]
        others = ["nor", "noo", "thenis", "orand", "iss", "eithero"]
        for tree in TREES:
            for some in (names, others):
                self.check(due_text(tree, some), tree, some)

    def test_names_that_begin_with_one_another(self):
        names = ["a", "aa", "aaa", "ab", "aaaaaaaa", "b"]
        for tree in TREES:
            self.check(due_text(tree, names), tree, names)
        self.check("aa and a and aaa", ("and", B, A, C), names)

    def test_names_that_begin_a_line(self):
        names = ["lamps", "start", "bad", "move", "drop", "show"]
        self.check("lamps and start or not move", ("or", ("and", A, B), ("not", D)), names)

    def test_the_same_text_by_another_order(self):
        text = "a and not b or c"
        self.check(text, ("or", ("and", A, ("not", B)), C), ["a", "b", "c"])
        self.check(text, ("or", ("and", C, ("not", B)), A), ["c", "b", "a"])
        self.check(text, ("or", ("and", B, ("not", C)), A), ["c", "a", "b"])
        self.check(text, ("or", ("and", A, ("not", B)), C), ["a", "b", "c"])

    def test_one_name(self):
        self.check("a and not a", ("and", A, ("not", A)), ["a"])

    def test_names_stay_and_may_be_changed_behind(self):
        names = ["a", "b", "c"]
        formula = read("a and not b or c", names)
        self.assertEqual(names, ["a", "b", "c"])
        names.reverse()
        self.assertEqual(formula.shown(ABC), "a and not b or c")
        names.clear()
        self.assertEqual(formula.shown(ABC), "a and not b or c")
        self.assertEqual([formula.holds(stand) for stand in range(8)],
                         [False, True, False, False, True, True, True, True])


class WrittenAndRead(ReadCase):
    def test_each_tree(self):
        for tree in TREES:
            self.check(due_text(tree, NAMES), tree)

    def test_drawn_trees(self):
        for tree in drawn_trees(1, 300, 3) + drawn_trees(2, 120, 4):
            text = due_text(tree, NAMES)
            formula = self.check(text, tree)
            self.assertEqual(read(formula.shown(NAMES), NAMES).shown(NAMES), text)

    def test_drawn_blanks(self):
        draw = random.Random(3)
        for tree in NESTED[::5] + drawn_trees(4, 80, 3):
            self.check(with_blanks(draw, due_text(tree, NAMES)), tree)


if __name__ == "__main__":
    unittest.main()
