"""Points 2, 7, 18 and 21: bars written, read, and told as formulas."""

import random
import unittest

from evernever.errors import NoBar
from evernever.formulas import And, Formula, Lamp, Not, Or, Sure
from evernever.signs import formula_of, read_bar, shown_bar
from plain import Case, all_bars, crowd_in, drawn_bar, due_fence_text, due_kept, due_signs, lamps_asked
from trees import NAMES


def drawn_bars(draw, many):
    bars = [drawn_bar(draw, many) for _ in range(draw.randrange(7))]
    bars += draw.sample(bars, len(bars) // 3)
    draw.shuffle(bars)
    return bars


class Shown(Case):
    def test_by_hand(self):
        self.assertEqual(shown_bar(3, (0b101, 0b001)), "1-0")
        self.assertEqual(shown_bar(3, (0b110, 0b100)), "-01")
        self.assertEqual(shown_bar(2, (0b01, 0b01)), "1-")
        self.assertEqual(shown_bar(6, (0, 0)), "------")
        self.assertEqual(shown_bar(6, (63, 1)), "100000")
        self.assertEqual(shown_bar(1, (1, 0)), "0")

    def check(self, many, bar):
        told = shown_bar(many, bar)
        self.assertIs(type(told), str)
        self.assertEqual(told, due_signs(many, bar))
        again = read_bar(told)
        self.assertIs(type(again), tuple)
        self.assertEqual([type(part) for part in again], [int, int])
        self.assertEqual(again, bar)

    def test_each_bar_of_up_to_three_lamps(self):
        for many in (1, 2, 3):
            for bar in all_bars(many):
                self.check(many, bar)
                self.check(6, bar)

    def test_drawn_bars(self):
        draw = random.Random(70)
        for many in (4, 5, 6):
            for _ in range(200):
                self.check(many, drawn_bar(draw, many))


class Read(Case):
    def test_by_hand(self):
        self.assertEqual(read_bar("1-0"), (0b101, 0b001))
        self.assertEqual(read_bar("-"), (0, 0))
        self.assertEqual(read_bar("000000"), (63, 0))
        self.assertEqual(read_bar("-----1"), (32, 32))

    def test_refused(self):
        others = ["a", "l", "O", "o", "2", "9", " ", ".", "+", "_", "*", "(", ",", "\t", "\n", "\xad"]
        others += ["\u2212", "\u0661", "\uff11"]
        self.refused(NoBar, read_bar, "")
        for length in (7, 8, 9, 100):
            for sign in "01-":
                self.refused(NoBar, read_bar, sign * length)
        for text in ("1", "-", "10", "1-0", "01-1", "--0-1", "10-01"):
            for sign in others:
                for place in {0, len(text) // 2, len(text)}:
                    self.refused(NoBar, read_bar, text[:place] + sign + text[place:])
                for place in range(len(text)):
                    self.refused(NoBar, read_bar, text[:place] + sign + text[place + 1:])
                self.assertEqual(read_bar("1-0"), (0b101, 0b001))
        for sign in others:
            self.refused(NoBar, read_bar, sign)
        for text in ("-1 ", " 0", "1 0", "0b1", "None", "(0, 0)"):
            self.refused(NoBar, read_bar, text)


class Formulas(Case):
    def check(self, bars):
        copy = list(bars)
        formula = formula_of(bars)
        self.assertEqual(bars, copy)
        bars.clear()
        self.assertIsInstance(formula, Formula)
        kept = due_kept(6, copy)
        self.assertEqual({stand for stand in range(64) if formula.holds(stand)}, kept)
        many = max([lamp + 1 for bar in copy for lamp in lamps_asked(bar)], default=1)
        self.assertEqual(formula.crowd(many), crowd_in(due_kept(many, copy)))
        self.assertEqual(formula.lamps(), sorted({lamp for bar in copy for lamp in lamps_asked(bar)}))
        self.assertEqual(formula.shown(NAMES), due_fence_text(copy, NAMES))
        return formula

    def test_no_bars(self):
        formula = self.check([])
        self.assertIs(type(formula), Sure)
        self.assertEqual(formula.shown(["a"]), "yes")

    def test_one_bar(self):
        self.assertIs(type(self.check([(0, 0)])), Sure)
        self.assertIs(type(self.check([(1, 1)])), Not)
        self.assertIs(type(self.check([(32, 32)])), Not)
        self.assertIs(type(self.check([(1, 0)])), Lamp)
        self.assertIs(type(self.check([(3, 2)])), Or)
        self.assertIs(type(self.check([(63, 21)])), Or)
        for bar in all_bars(3):
            self.check([bar])

    def test_more_bars(self):
        self.assertIs(type(self.check([(0, 0), (0, 0)])), And)
        self.assertIs(type(self.check([(1, 1), (1, 1)])), And)
        self.assertIs(type(self.check([(2, 2), (1, 0), (3, 0)])), And)
        bars = [(3, 1), (4, 0), (0, 0), (1, 1)]
        self.assertEqual(formula_of(bars).shown(NAMES), "(not a or b) and c and no and not a")
        self.assertEqual(formula_of(bars[::-1]).shown(NAMES), "not a and no and c and (not a or b)")
        self.assertEqual(formula_of([(1, 1), (2, 2), (1, 1)]).shown(NAMES), "not a and not b and not a")

    def test_drawn_lists(self):
        draw = random.Random(71)
        for many in range(1, 7):
            for _ in range(80):
                bars = drawn_bars(draw, many)
                due = {0: Sure, 1: None}.get(len(bars), And)
                formula = self.check(bars)
                if due is not None:
                    self.assertIs(type(formula), due)

    def test_many_bars(self):
        bars = [(63, stand) for stand in range(64)] * 10
        self.assertEqual(formula_of(bars).crowd(6), 0)
        self.assertEqual(formula_of(bars[1:64]).crowd(6), 1)


if __name__ == "__main__":
    unittest.main()
