"""Point 34: lines at the desk that are refused, each with its first fault, and change nothing."""

import random
import unittest

from evernever.desk import Desk
from evernever.errors import NoFence, NoFormula, NoLine, NoMachine, NoName, NothingLeft, TooMany
from plain import (
    Case, changed_words, distances, drawn_machines, due_chart, due_lines, faults_of_line, first_of, shrunk, words_of,
)

ORDER = [NoLine, NoMachine, NoName, NoFormula, NothingLeft, TooMany, NoFence]

NO_LINES = [
    "", "   ", "hello", "a", "ok", "Show", "show.", "judge!", "drop_start", "start a;", "start\ta", "judge\n", "1",
    "(show)", ",", ", show", "(", "then", "is", "shows", "lamp a", "none", "drops start",
    "show a", "show show", "show ,", "judge judge", "judge a", "fence a", "fence (", "reach a", "reach reach",
    "judge ,", "drop", "drop a", "drop lamps", "drop starts", "drop show", "drop start start", "drop start bad",
    "drop ,", "drop (", "drop start ,", "drop drop", "lamps", "lamps a b c d e f g", "lamps a a a a a a a",
    "lamps and or not is then no yes",
    "move", "move a", "move a then", "move a then a", "move a then a b", "move a then a is b,", "move a then , a is b",
    "move a then a is b then b is a", "move a is b", "move ( then d", "move d then d is d, d",
]

# Of a machine with the lamps a, b.
NO_NAMES = [
    "move a then d is a", "move a then a is b, a is b", "move a then ( is a", "move d then d is d", "move then d is",
    "move a then and is b", "move ( then a is, a is",
]
NO_FORMULAS = [
    "start", "bad", "always", "start d", "bad d", "always d", "start a b", "bad a and", "always not", "always ()",
    "start a, b", "start then", "always is", "always a then b", "always always", "move then a is b", "move a then a is",
    "move d then a is b", "move a then a is d", "move a then a is (b", "move a b then a is b",
]
NO_LAMPS = ["lamps and", "lamps a a", "lamps (", "lamps a, b", "lamps abcdefghi", "lamps a is", "lamps a b c d e a"]
GOOD = ["start a", "bad b", "move a then b is not b", "drop start", "drop bad", "drop move", "show", "judge", "fence",
        "reach", "always a or not a"]


def desk_faults(line, plain):
    """All faults of a line at a desk with this machine, None being no machine."""
    words = words_of(line)
    if not words:
        return {NoLine}
    first, behind = words[0], words[1:]
    names = plain.names if plain else []
    if first == "lamps":
        return faults_of_line(line, names)
    faults = set() if plain else {NoMachine}
    lists = {"start": plain.starts, "bad": plain.bads, "move": plain.moves} if plain else {}
    if first in ("start", "bad", "move"):
        too_many = {TooMany} if plain and len(lists[first]) == 8 else set()
        return faults | faults_of_line(line, names) | too_many
    if first == "always":
        return faults | ({NoFormula} if shrunk(behind, names) != "x" else set())
    if first == "drop":
        if behind not in (["start"], ["bad"], ["move"]):
            return faults | {NoLine}
        return faults | ({NothingLeft} if plain and not lists[behind[0]] else set())
    if first not in ("show", "judge", "fence", "reach") or behind:
        return faults | {NoLine}
    if first == "fence" and plain and set(distances(due_chart(plain))) & due_chart(plain).bads:
        return faults | {NoFence}
    return faults


class DeskCase(Case):
    def desk(self, *lines):
        desk = Desk()
        for line in lines:
            self.assertEqual(desk.say(line), "ok", line)
        return desk

    def check(self, desk, due, line, shown):
        """Refused, and the machine is as it was: what show tells, None being no machine."""
        self.refused(due, desk.say, line)
        if shown is None:
            self.refused(NoMachine, desk.say, "show")
        else:
            self.assertEqual(desk.say("show"), shown)


class NoMachineYet(DeskCase):
    def test_each_sort(self):
        desk = Desk()
        for line in NO_LINES:
            self.check(desk, NoLine, line, None)
        for line in GOOD + NO_NAMES + NO_FORMULAS:
            self.check(desk, NoMachine, line, None)
        for line in NO_LAMPS:
            self.check(desk, NoName, line, None)
        for line in GOOD:
            self.check(desk, NoMachine, line, None)
        self.assertEqual(desk.say("lamps a"), "ok")
        self.assertEqual(desk.say("show"), "lamps a")

    def test_a_desk_beside_it(self):
        other = self.desk("lamps a b", "start a")
        desk = Desk()
        self.check(desk, NoMachine, "judge", None)
        self.assertEqual(other.say("show"), "lamps a b; start a")


class WithMachine(DeskCase):
    def test_each_sort(self):
        lines = ["lamps a b", "start a", "bad not a and not b", "move a and b then b is no"]
        desk = self.desk(*lines)
        for due, wrong in ((NoLine, NO_LINES), (NoName, NO_NAMES + NO_LAMPS), (NoFormula, NO_FORMULAS)):
            for line in wrong:
                self.check(desk, due, line, "; ".join(lines))
        self.assertEqual(desk.say("judge"), "never 0-")

    def test_a_refused_lamps_line_leaves_the_machine(self):
        desk = self.desk("lamps a b", "start a")
        for line in NO_LAMPS:
            self.check(desk, NoName, line, "lamps a b; start a")
        for line in ("lamps", "lamps a b c d e f g", "lamps a, b, c, d"):
            self.check(desk, NoLine, line, "lamps a b; start a")
        self.assertEqual(desk.say("bad a and b"), "ok")
        self.assertEqual(desk.say("show"), "lamps a b; start a; bad a and b")

    def test_nothing_left(self):
        desk = self.desk("lamps a b")
        for sort, line in (("start", "start a"), ("bad", "bad a"), ("move", "move a then a is b")):
            for other in ("start", "bad", "move"):
                self.check(desk, NothingLeft, "drop " + other, "lamps a b")
            self.assertEqual(desk.say(line), "ok")
            for other in {"start", "bad", "move"} - {sort}:
                self.check(desk, NothingLeft, "drop " + other, "lamps a b; " + line)
            self.assertEqual(desk.say("drop " + sort), "ok")
            self.check(desk, NothingLeft, "drop " + sort, "lamps a b")
            self.check(desk, NoLine, "drop " + sort + " " + sort, "lamps a b")

    def test_too_many(self):
        good = {"start": "start a", "bad": "bad a", "move": "move a then a is b"}
        for sort, line in good.items():
            desk = self.desk("lamps a b", *[line] * 8)
            shown = "; ".join(["lamps a b"] + [line] * 8)
            self.check(desk, TooMany, line, shown)
            wrong = {
                "start": {NoFormula: ["start d", "start", "start a b"]},
                "bad": {NoFormula: ["bad d", "bad", "bad a b"]},
                "move": {NoLine: ["move a", "move a then a", "move d then d is d, d"], NoName: NO_NAMES,
                         NoFormula: ["move d then a is b", "move a then a is"]},
            }[sort]
            for due, some in wrong.items():
                for text in some:
                    self.check(desk, due, text, shown)
            self.assertEqual(desk.say("drop " + sort), "ok")
            self.assertEqual(desk.say(line), "ok")
            self.check(desk, TooMany, line, shown)
            for other in set(good) - {sort}:
                self.assertEqual(desk.say(good[other]), "ok")

    def test_no_fence(self):
        lines = ["lamps a b", "start not a", "bad a", "move b then a is b"]
        desk = self.desk(*lines)
        shown = "; ".join(lines)
        self.check(desk, NoFence, "fence", shown)
        self.check(desk, NoLine, "fence fence", shown)
        self.assertEqual(desk.say("judge"), "ever 01 1 11")
        self.assertEqual(desk.say("drop move"), "ok")
        self.assertEqual(desk.say("fence"), "not a")
        self.assertEqual(desk.say("start a and b"), "ok")
        self.check(desk, NoFence, "fence", "lamps a b; start not a; start a and b; bad a")

    def test_good_lines_behind_each_refusal(self):
        for line in NO_LINES + NO_NAMES + NO_FORMULAS + NO_LAMPS:
            desk = self.desk("lamps a b", "start a", "bad b")
            self.check(desk, first_of(desk_faults(line, drawn_like()), ORDER), line, "lamps a b; start a; bad b")
            self.assertEqual(desk.say("move a then b is a"), "ok")
            self.assertEqual(desk.say("judge"), "ever 11")


def drawn_like():
    """A plain machine with the lamps a, b, a start, a bad stand and no move."""
    plain = drawn_machines(0, [0, 1])[0]
    return plain._replace(names=["a", "b"], starts=[("lamp", 0)], bads=[("lamp", 1)], moves=[])


class Changed(DeskCase):
    def test_changed_lines(self):
        draw = random.Random(140)
        more = ["a", "b", "d", "z", "not", "and", "or", "(", ")", ",", "then", "is", "yes", "lamps", "start", "drop"]
        met = {due: 0 for due in ORDER}
        for plain in drawn_machines(141, [20, 60, 60, 20]) + [None] * 40:
            desk = self.desk(*due_lines(plain)) if plain else Desk()
            shown = "; ".join(due_lines(plain)) if plain else None
            some = GOOD + (due_lines(plain) if plain else ["lamps a b"])
            for _ in range(15):
                line = draw.choice(some)
                if draw.random() < 0.7:
                    line = " ".join(changed_words(draw, words_of(line), more))
                due = first_of(desk_faults(line, plain), ORDER)
                if due is not None:
                    self.check(desk, due, line, shown)
                    met[due] += 1
        self.assertGreater(min(met.values()), 10, met)


if __name__ == "__main__":
    unittest.main()
