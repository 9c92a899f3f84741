"""Point 5: formulas as deep and as large as they may be."""

import unittest

from evernever.formulas import And, Either, Lamp, Not, Or, Sure
from trees import NAMES

DEEP = 70


def deep(sort):
    """A Lamp that lies DEEP deep, a lamp beside it at each depth; and its text."""
    formula, text = Lamp(0), "a"
    for depth in range(DEEP):
        at = (depth + 1) % 6
        text = text if depth == 0 else f"({text})"
        formula, text = sort([formula, Lamp(at)]), f"{text} {sort.__name__.lower()} {NAMES[at]}"
    return formula, text


class Sizes(unittest.TestCase):
    def check_text(self, formula, due):
        # Told as a truth: the difference of texts so long takes too long to work out.
        self.assertTrue(formula.shown(NAMES) == due, due[:40])


class Deep(Sizes):
    def test_nots(self):
        for many in (DEEP - 1, DEEP):
            formula = Lamp(2)
            for _ in range(many):
                formula = Not(formula)
            for stand in range(64):
                self.assertIs(formula.holds(stand), (stand // 4 % 2 == 1) == (many % 2 == 0))
            self.assertEqual(formula.crowd(3), 0b11110000 if many % 2 == 0 else 0b00001111)
            self.assertEqual(formula.lamps(), [2])
            self.check_text(formula, "not " * many + "c")

    def test_ands(self):
        formula, text = deep(And)
        self.assertEqual([stand for stand in range(64) if formula.holds(stand)], [63])
        self.assertEqual(formula.crowd(6), 2 ** 63)
        self.assertEqual(formula.lamps(), [0, 1, 2, 3, 4, 5])
        self.check_text(formula, text)

    def test_ors(self):
        formula, text = deep(Or)
        self.assertEqual([stand for stand in range(64) if not formula.holds(stand)], [0])
        self.assertEqual(formula.crowd(6), 2 ** 64 - 2)
        self.assertEqual(formula.lamps(), [0, 1, 2, 3, 4, 5])
        self.check_text(formula, text)

    def test_eithers(self):
        formula, text = deep(Either)
        often = [1 + sum(1 for depth in range(DEEP) if (depth + 1) % 6 == 0)]
        often += [sum(1 for depth in range(DEEP) if (depth + 1) % 6 == at) for at in range(1, 6)]
        due = [sum(often[at] for at in range(6) if stand // 2 ** at % 2) % 2 == 1 for stand in range(64)]
        self.assertEqual([formula.holds(stand) for stand in range(64)], due)
        self.assertEqual(formula.crowd(6), sum(2 ** stand for stand in range(64) if due[stand]))
        self.assertEqual(formula.lamps(), [0, 1, 2, 3, 4, 5])
        self.check_text(formula, text)

    def test_mixed(self):
        # Each round is five depths, the last of them a Not, which turns the truth over.
        formula, text, holding = Lamp(1), "b", [False, False, True, True]
        for _ in range(DEEP // 5):
            inner = And([Or([formula, Sure(False)]), Sure(True)])
            formula = Not(Either([And([inner, Sure(True)]), Sure(False)]))
            text = f"not ((({text} or no) and yes) and yes either no)"
            holding = [not truth for truth in holding]
        self.assertEqual([formula.holds(stand) for stand in range(4)], holding)
        self.assertEqual(formula.crowd(2), sum(2 ** stand for stand in range(4) if holding[stand]))
        self.assertEqual(formula.lamps(), [1])
        self.check_text(formula, text)


class Large(Sizes):
    def test_five_thousand_parts_side_by_side(self):
        # Five parts of 999 parts each: five thousand in all.
        lamps = [Lamp(at % 6) for at in range(999)]
        for sort, word in ((And, "and"), (Or, "or"), (Either, "either")):
            formula = sort([sort(lamps) for _ in range(5)])
            often = [sum(1 for at in range(999) if at % 6 == lamp) for lamp in range(6)]
            crowd = formula.crowd(6)
            for stand in range(64):
                lit = [lamp for lamp in range(6) if stand // 2 ** lamp % 2]
                odd = sum(often[lamp] for lamp in lit) * 5 % 2 == 1
                due = {"and": len(lit) == 6, "or": len(lit) > 0, "either": odd}[word]
                self.assertIs(formula.holds(stand), due)
                self.assertEqual(crowd >> stand & 1 == 1, due)
            self.assertEqual(formula.lamps(), [0, 1, 2, 3, 4, 5])
            one = "(" + f" {word} ".join(NAMES[at % 6] for at in range(999)) + ")"
            self.check_text(formula, f" {word} ".join([one] * 5))

    def test_five_thousand_parts_seventy_deep(self):
        # Each depth has the formula so far and 70 lamps beside it; the last has 30 more: 70 * 71 + 30 = 5000.
        formula, text, lamps = Lamp(0), "a", 0
        for depth in range(DEEP):
            beside = 100 if depth == DEEP - 1 else 70
            text = text if depth == 0 else f"({text})"
            text = " either ".join([text] + ["d"] * beside)
            formula = Either([formula] + [Lamp(3)] * beside)
            lamps += beside
        self.assertEqual(lamps + DEEP, 5000)
        due = [(stand % 2 + lamps * (stand // 8 % 2)) % 2 == 1 for stand in range(64)]
        self.assertEqual([formula.holds(stand) for stand in range(64)], due)
        self.assertEqual(formula.crowd(6), sum(2 ** stand for stand in range(64) if due[stand]))
        self.assertEqual(formula.lamps(), [0, 3])
        self.check_text(formula, text)

    def test_one_part_that_stands_in_many_places(self):
        # Doubled eleven times: 2 + 4 + ... + 2048 = 4094 parts in all.
        formula, text = Not(Lamp(1)), "not b"
        for doubling in range(11):
            text = text if doubling == 0 else f"({text})"
            formula, text = Or([formula, formula]), f"{text} or {text}"
        self.assertEqual(formula.crowd(2), 0b0011)
        self.assertEqual([formula.holds(stand) for stand in range(4)], [True, True, False, False])
        self.assertEqual(formula.lamps(), [1])
        self.check_text(formula, text)


if __name__ == "__main__":
    unittest.main()
