"""Point 9: texts that are no formulas."""

import random
import unittest

from evernever.errors import NoFormula
from evernever.formulas import Formula
from evernever.reading import read
from plain import Case, shrunk, words_of

NAMES = ["a", "b", "c"]

GOOD = [
    "a", "yes", "not a", "a and b", "a or b either c", "not (a and b) or c", "(a or not b) and (c either yes)",
    "a and (b and (c or no))", "((a))", "not not a or not (not b)",
]

REFUSED = [
    "", " ", "      ", "()", "( )", "(())", "a ()", "() a", "a and ()", "not ()",
    "and", "or", "either", "not", "not not", "then", "is", ",", "(", ")", ")(", ")a(", "(a", "a)", "((a)", "(a))",
    "and a", "a and", "a and and b", "a and or b", "either a", "a either", "or a", "a or", "a or not", "a not",
    "a not b", "(a) not", "(a) not b", "(a not)", "a (b)", "(a) b", "(a)(b)", "a b", "a b c", "yes no", "yes a",
    "a yes", "not a b", "a and b c", "a, b", "a,", ",a", "(a,b)", "a and (b", "a and b)", "(a and) b", "(a) and (b",
    "then a", "a then b", "a is b", "is a", "a and then", "a or is", "not then", "(is)", "(then)",
    "d", "aa", "a and d", "not d", "(d)", "yess", "noo", "nota", "anda", "a andb", "aand b", "yes and d",
    "lamps", "xor",
]

SIGNS = ["A", "Z", "0", "1", "9", "-", "_", ".", ";", "&", "|", "!", "'", '"', "[", "{", "\t", "\n", "\r",
         "\xa0", "\xe4"]


def due_crowd(words, names):
    """Python's own ~, &, ^ and | bind one another in the order that is due."""
    signs = {"not": "~", "and": "&", "either": "^", "or": "|", "yes": "-1", "no": "0"}
    text = " ".join(signs.get(word, word) for word in words)
    every = 2 ** 2 ** len(names) - 1
    lamps = {name: sum(2 ** stand for stand in range(2 ** len(names)) if stand >> at & 1)
             for at, name in enumerate(names)}
    return eval(text, {"__builtins__": {}}, lamps) & every


class Refused(Case):
    def check_refused(self, text, names=NAMES):
        self.refused(NoFormula, read, text, names)
        self.assertEqual(read("a and not b", NAMES).shown(NAMES), "a and not b")

    def check(self, words):
        """Refused or read, as is due; True where it was read."""
        text = " ".join(words)
        if shrunk(words, NAMES) != "x":
            self.check_refused(text)
            return False
        formula = read(text, NAMES)
        self.assertIsInstance(formula, Formula)
        self.assertEqual(formula.crowd(3), due_crowd(words, NAMES), text)
        return True

    def test_by_hand(self):
        for text in REFUSED:
            self.assertNotEqual(shrunk(words_of(text), NAMES), "x", text)
            self.check_refused(text)

    def test_good_ones_are_read(self):
        for text in GOOD:
            self.assertTrue(self.check(words_of(text)), text)

    def test_other_signs(self):
        for text in GOOD:
            for sign in SIGNS:
                for place in {0, len(text) // 2, len(text)}:
                    self.check_refused(text[:place] + sign + text[place:])
        for sign in SIGNS:
            self.check_refused(sign)
            self.check_refused(f"a and {sign} b")

    def test_a_word_missing(self):
        for text in GOOD:
            words = words_of(text)
            for place in range(len(words)):
                self.check(words[:place] + words[place + 1:])

    def test_a_word_too_many(self):
        more = ["a", "c", "yes", "not", "and", "either", "or", "(", ")", ",", "then", "is", "d", "move"]
        for text in GOOD:
            words = words_of(text)
            for place in range(len(words) + 1):
                for word in more:
                    self.check(words[:place] + [word] + words[place:])

    def test_a_word_in_the_place_of_another(self):
        for text in GOOD:
            words = words_of(text)
            for place in range(len(words)):
                for word in ("a", "no", "not", "or", "(", ")", ",", "then", "is", "z"):
                    self.check(words[:place] + [word] + words[place + 1:])

    def test_drawn_words(self):
        draw = random.Random(9)
        good = 0
        for _ in range(6000):
            many = draw.randrange(1, 10)
            good += self.check(draw.choices(["a", "b", "c", "yes", "not", "and", "either", "or", "(", ")"], k=many))
        self.assertGreater(good, 300)

    def test_a_name_that_is_not_among_the_names(self):
        for name in ("b", "c", "aa", "abcdefgh"):
            self.check_refused(name, ["a"])
            self.check_refused(f"a or {name}", ["a"])
        self.check_refused("a", ["aa", "ab"])
        self.check_refused("aaa", ["a", "aa"])

    def test_names_stay(self):
        names = ["a", "b", "c"]
        for text in REFUSED + GOOD:
            try:
                read(text, names)
            except NoFormula:
                pass
            self.assertEqual(names, ["a", "b", "c"])


if __name__ == "__main__":
    unittest.main()
