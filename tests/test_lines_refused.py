"""Point 17: lines that are refused, each with the first fault of the first line that is wrong."""

import itertools
import random
import unittest

from evernever.errors import NoFormula, NoLine, NoName
from evernever.lines import machine_of, written
from plain import Case, changed_words, drawn_machines, due_lines, faults_of_line, first_of, words_of

ORDER = [NoLine, NoName, NoFormula]

GOOD = [
    "lamps a b c", "start not a and not b", "bad a and (b or c)", "move a and not b then a is b, b is not a",
    "start c", "move yes then c is (a or b) and c",
]

LAMPS = {
    NoLine: ["lamps", " lamps ", "lamps a b c d e f g", "lamps a a a a a a a", "lamps , , , , , , ,",
             "lamps (a b c d e f", "lamps a and b or c not d"],
    NoName: ["lamps a a", "lamps a b a", "lamps abcdefghi", "lamps a abcdefghijk b", "lamps (", "lamps )",
             "lamps ,", "lamps a, b", "lamps (a)", "lamps a,b,c", "lamps a b c d e a"]
    + [f"lamps {word}" for word in ("and", "or", "not", "either", "yes", "no", "then", "is")]
    + [f"lamps a {word} b" for word in ("and", "or", "not", "either", "yes", "no", "then", "is")],
}

LATER = {
    NoLine: [
        "", "   ", "starts a", "begin a", "a", "a and b", "Start a", "start A", "start a.", "bad\ta", "bad a\n",
        "(start a)", ", start a", "then", "is", "show", "judge", "drop start", "lamps a b c", "lamps", "lamps and",
        "move", "move a", "move a is b", "move a then", "move then", "move a then a", "move a then is",
        "move a then a b", "move a then a is b,", "move a then , a is b", "move a then a is b,, b is a",
        "move a then a is b, b",
        "move a then a is b, b a is", "move a then a is b then b is a", "move a then then a is b",
        "move then a then a is b", "move a then a not is b", "move a then a then", "move a, b is c",
        "move a then ,", "move a then a is b, is",
        "move a then (a) is b", "move a then a (is b)", "move a then a is b, c, a is a",
    ],
    NoName: [
        "move a then d is a", "move a then aa is a", "move a then and is b", "move a then is is b",
        "move a then ( is b", "move a then a is b, a is c", "move a then a is b, b is c, a is a",
        "move a then a is b, d is a", "move a then yes is a", "move a then move is a", "move a then d is",
        "move a then a is, a is",
    ],
    NoFormula: [
        "start", "bad", "start ()", "start a b", "bad a and", "start d", "bad then", "start a then b",
        "start a, b", "start ,", "bad a is b", "start start", "start start a", "bad not", "move then a is b",
        "move a b then a is b",
        "move a then a is", "move a then a is b c", "move a then a is b is c", "move a then a is is",
        "move d then a is b", "move a then a is d", "move a then a is b, b is", "move a, b then a is b",
        "move a then a is (b, c is a)",
        "move a then a is b, b is (c", "move a then a is )", "move is then a is b", "move a and then a is b",
    ],
}

# One line with several faults: the first of NoLine, NoName, NoFormula is due.
PAIRS = {
    NoLine: ["move d then a is b, b", "move ( then d", "move a b then a is b, a is c, c",
             "move a and then d is c, ,",
             "move a then d is b then a is c", "move then d"],
    NoName: ["move d then d is b", "move ( then d is b", "move a b then a is b, a is c", "move then d is",
             "move and then a is, a is", "move a then a is d, d is a", "move a then a is b c, aa is b"],
}


class Refused(Case):
    def check(self, due, lines):
        copy = list(lines)
        self.refused(due, machine_of, lines)
        self.assertEqual(lines, copy)
        self.assertEqual(written(machine_of(GOOD)), [GOOD[at] for at in (0, 1, 4, 2, 3, 5)])

    def test_lamps_lines(self):
        for due, lines in LAMPS.items():
            for line in lines:
                self.assertIs(first_of(faults_of_line(line, []), ORDER), due, line)
                self.check(due, [line])
                self.check(due, [line] + GOOD[1:])

    def test_other_lines_at_each_place(self):
        for due, lines in list(LATER.items()) + list(PAIRS.items()):
            for line in lines:
                if not line.startswith("lamps"):
                    self.assertIs(first_of(faults_of_line(line, "abc"), ORDER), due, line)
                for place in range(1, len(GOOD) + 1):
                    self.check(due, GOOD[:place] + [line] + GOOD[place:])

    def test_no_line_at_all(self):
        self.check(NoLine, [])

    def test_a_first_line_that_is_no_lamps_line(self):
        self.check(NoLine, GOOD[1:])
        self.check(NoLine, GOOD[1:] + GOOD[:1])
        others = ["", "lamp a", "lampss a", "Lamps a", "lamps A", "lamps a1"]
        for line in GOOD[1:] + LATER[NoName] + LATER[NoFormula] + others:
            self.check(NoLine, [line])
            self.check(NoLine, [line] + GOOD)

    def test_a_second_lamps_line(self):
        for line in GOOD[:1] + LAMPS[NoLine] + LAMPS[NoName] + ["lamps d"]:
            for place in range(1, len(GOOD) + 1):
                self.check(NoLine, GOOD[:place] + [line] + GOOD[place:])

    def test_the_first_line_that_is_wrong(self):
        wrong = {NoLine: ["move a", ""], NoName: ["move a then d is a", "move d then d is"],
                 NoFormula: ["start", "move d then a is b"]}
        for (due, lines), (other, others) in itertools.product(wrong.items(), repeat=2):
            for one, two in itertools.product(lines, others):
                self.check(due, ["lamps a b c", one, two])
                self.check(due, ["lamps a b c", "start a", one, "bad b", two, "bad c"])
        self.check(NoName, ["lamps a a", "start", "move"])
        self.check(NoName, ["lamps and", ""])
        self.check(NoLine, ["lamps", "start"])

    def test_each_fault_alone_and_all_pairs_in_one_move(self):
        guards = {None: "a", NoFormula: "a b"}
        seconds = {None: "b is a", NoLine: "b", NoName: "a is b", NoFormula: "b is"}
        firsts = {None: "a is b", NoLine: "a not b", NoName: "d is b", NoFormula: "a is d"}
        for guard, first, second in itertools.product(guards, firsts, seconds):
            line = f"move {guards[guard]} then {firsts[first]}, {seconds[second]}"
            due = first_of({guard, first, second} - {None}, ORDER)
            if due is None:
                self.assertEqual(written(machine_of(["lamps a b c", line])), ["lamps a b c", line])
            else:
                self.check(due, ["lamps a b c", line])

    def test_changed_lines(self):
        draw = random.Random(53)
        more = ["a", "b", "d", "z", "not", "and", "or", "(", ")", ",", "then", "is", "yes", "lamps", "start",
                "move"]
        met = {NoLine: 0, NoName: 0, NoFormula: 0, None: 0}
        for plain in drawn_machines(54, [20, 40, 60, 40]):
            lines = due_lines(plain)
            for _ in range(12):
                some = list(lines)
                for place in draw.sample(range(len(some)), min(len(some), draw.choice([1, 1, 2]))):
                    some[place] = " ".join(changed_words(draw, words_of(some[place]), more))
                met[self.check_changed(some)] += 1
        self.assertGreater(min(met.values()), 30, met)

    def check_changed(self, lines):
        names = words_of(lines[0])[1:]
        for place, line in enumerate(lines):
            faults = faults_of_line(line, names)
            if (place == 0) != (words_of(line)[:1] == ["lamps"]):
                faults = faults | {NoLine}
            due = first_of(faults, ORDER)
            if due is not None:
                self.refused(due, machine_of, lines)
                return due
        self.assertEqual(len(written(machine_of(lines))), len(lines))
        return None


if __name__ == "__main__":
    unittest.main()
