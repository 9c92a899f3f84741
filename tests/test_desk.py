"""Points 2, 4, 32 and 33: rows of lines said to a desk, and its answers, against a plain flood."""

import random
import time
import unittest

from evernever.desk import Desk
from plain import (
    Case, PlainMachine, bar_by_signs, distances, drawn_machines, drawn_move, drawn_tree, drawn_walk, due_chart,
    due_fence_text, due_is_way, due_lines, due_move_line, due_nearest, due_onward, due_signs, is_cover, is_tight,
    single_stand,
)
from trees import NAMES, due_text, due_truth, with_blanks

DRAWN = drawn_machines(130, [40, 120, 140, 80, 25, 15])
WALKS = [drawn_walk(random.Random(seed), 2 + seed % 4) for seed in range(300)]

# Six lamps that count up to 63 and begin again.
COUNTER = ["lamps a b c d e f", "start not (a or b or c or d or e or f)"]
COUNTER += ["move yes then a is not a, b is a either b, c is a and b either c, d is a and b and c either d, "
            "e is a and b and c and d either e, f is a and b and c and d and e either f"]


def bars_of_fence(text, names):
    """The bars that a fence's formula is made of, read from its text."""
    if text == "yes":
        return []
    bars = []
    for part in text.split(" and "):
        asked, lit = 0, 0
        for word in part.strip("()").split(" or "):
            if word != "no":
                lamp = names.index(word.removeprefix("not "))
                asked, lit = asked | 2 ** lamp, lit | 2 ** lamp * word.startswith("not ")
        bars.append((asked, lit))
    return bars


class DeskCase(Case):
    def say(self, desk, line):
        told = desk.say(line)
        self.assertIs(type(told), str)
        return told

    def desk_of(self, plain):
        desk = Desk()
        for line in due_lines(plain):
            self.assertEqual(self.say(desk, line), "ok")
        return desk

    def check_judge(self, text, plain):
        chart = due_chart(plain)
        words = text.split(" ")
        if due_nearest(chart) is None:
            self.assertEqual(words[0], "never")
            shown = text[6:].split(", ") if len(words) > 1 else []
            bars = [bar_by_signs(signs) for signs in shown]
            self.assertEqual(shown, [due_signs(chart.many, bar) for bar in bars])
            self.assertEqual(bars, sorted(set(bars)))
            self.assertTrue(is_tight(chart, bars), (plain, text))
            return len(bars)
        self.assertEqual(words[0], "ever")
        way = [bar_by_signs(signs)[1] for signs in words[1::2]]
        self.assertEqual(words[1::2], [due_signs(chart.many, (2 ** chart.many - 1, stand)) for stand in way])
        self.assertTrue(due_is_way(chart, way), (plain, text))
        self.assertEqual(len(way), due_nearest(chart) + 1)
        for one, other, number in zip(way, way[1:], words[2::2]):
            leads = [due_truth(move[0], one) and due_onward(move, one) == other for move in plain.moves]
            self.assertEqual(number, str(leads.index(True) + 1))
        self.assertEqual(len(words), 2 * len(way))
        return len(way)

    def check_fence(self, text, plain):
        bars = bars_of_fence(text, plain.names)
        self.assertEqual(text, due_fence_text(bars, plain.names))
        self.assertEqual(bars, sorted(set(bars)))
        self.assertTrue(is_tight(due_chart(plain), bars), (plain, text))

    def check_reach(self, text, plain):
        stands = sorted(distances(due_chart(plain)))
        if not stands:
            self.assertEqual(text, "none")
            return
        bars = [bar_by_signs(signs) for signs in text.split(", ")]
        self.assertEqual(text, ", ".join(due_signs(len(plain.names), bar) for bar in bars))
        self.assertEqual(bars, sorted(set(bars)))
        self.assertTrue(is_cover(len(plain.names), stands, bars), (plain, text))

    def check_always(self, desk, tree, plain):
        told = self.say(desk, "always " + due_text(tree, plain.names))
        due = all(due_truth(tree, stand) for stand in distances(due_chart(plain)))
        self.assertEqual(told, "yes" if due else "no")
        return told

    def check_all(self, desk, plain):
        """Each question, and that none of them changes the machine."""
        lines = "; ".join(due_lines(plain))
        self.assertEqual(self.say(desk, "show"), lines)
        self.check_judge(self.say(desk, "judge"), plain)
        if due_nearest(due_chart(plain)) is None:
            self.check_fence(self.say(desk, "fence"), plain)
        self.check_reach(self.say(desk, "reach"), plain)
        self.assertEqual(self.say(desk, "show"), lines)


class ByHand(DeskCase):
    def said(self, *rows):
        desk = Desk()
        for line, due in rows:
            self.assertEqual(self.say(desk, line), due, line)

    def test_a_way(self):
        self.said(
            ("lamps a b", "ok"), ("start not a and not b", "ok"), ("bad a and b", "ok"),
            ("move b then a is yes", "ok"), ("move not b then b is yes", "ok"), ("judge", "ever 00 2 01 1 11"),
            ("reach", "0-, -1"), ("always not a or b", "yes"), ("always not a", "no"), ("always yes", "yes"),
            ("always no", "no"),
            ("show", "lamps a b; start not a and not b; bad a and b; move b then a is yes; move not b then b is yes"),
        )

    def test_a_fence(self):
        self.said(
            ("lamps a b", "ok"), ("start a", "ok"), ("bad not a and b", "ok"), ("move yes then b is not b", "ok"),
            ("judge", "never 0-"), ("fence", "a"), ("reach", "1-"), ("always a", "yes"), ("always a and b", "no"),
            ("drop move", "ok"), ("judge", "never 0-"), ("drop bad", "ok"), ("judge", "never"), ("fence", "yes"),
            ("drop start", "ok"), ("judge", "never"), ("reach", "none"), ("always no", "yes"), ("show", "lamps a b"),
        )

    def test_a_bad_start(self):
        self.said(("lamps a b c", "ok"), ("start a and not b and c", "ok"), ("bad c", "ok"), ("judge", "ever 101"))

    def test_no_start_and_a_bad_stand(self):
        self.said(("lamps a b", "ok"), ("bad a", "ok"), ("judge", "never --"), ("fence", "no"), ("reach", "none"))

    def test_two_bars(self):
        self.said(("lamps a b", "ok"), ("start not a and not b", "ok"), ("bad a or b", "ok"), ("judge", "never 1-, -1"),
                  ("fence", "not a and not b"), ("reach", "00"), ("bad a either b", "ok"), ("judge", "never 1-, -1"))

    def test_the_first_move_of_several(self):
        self.said(("lamps a", "ok"), ("start not a", "ok"), ("bad a", "ok"), ("move a then a is yes", "ok"),
                  ("move no then a is yes", "ok"), ("move yes then a is a", "ok"), ("move yes then a is not a", "ok"),
                  ("move yes then a is yes", "ok"), ("judge", "ever 0 4 1"))

    def test_lamps_in_the_place_of_the_old_machine(self):
        self.said(("lamps a b", "ok"), ("start a", "ok"), ("bad b", "ok"), ("move yes then a is b", "ok"),
                  ("lamps b a c", "ok"), ("show", "lamps b a c"), ("judge", "never"), ("reach", "none"),
                  ("start b", "ok"), ("show", "lamps b a c; start b"), ("lamps b", "ok"), ("show", "lamps b"))

    def test_names_like_words_of_the_desk(self):
        self.said(("lamps judge fence always reach drop show", "ok"), ("start show", "ok"),
                  ("bad judge and drop", "ok"), ("move fence then always is reach", "ok"),
                  ("always show", "yes"), ("always drop", "no"),
                  ("show", "lamps judge fence always reach drop show; start show; bad judge and drop; "
                           "move fence then always is reach"))

    def test_blanks(self):
        self.said(("  lamps  a   b ", "ok"), (" start(a)and((b))", "ok"), ("drop   start", "ok"), ("start  a  ", "ok"),
                  ("move(a)then a is b,b is(a or b)", "ok"),
                  ("   show ", "lamps a b; start a; move a then a is b, b is a or b"),
                  (" judge", "never"), ("reach ", "1-, -1"), ("always(a)or b", "yes"), ("  fence  ", "yes"))

    def test_eight_of_each(self):
        rows = [("lamps a", "ok")] + [("start a", "ok"), ("bad a", "ok"), ("move a then a is no", "ok")] * 8
        shown = ["lamps a"] + ["start a"] * 8 + ["bad a"] * 8 + ["move a then a is no"] * 8
        self.said(*rows, ("show", "; ".join(shown)), ("drop start", "ok"), ("start not a", "ok"), ("judge", "ever 1"))

    def test_drop_takes_the_last_out(self):
        self.said(("lamps a b", "ok"), ("start a", "ok"), ("start b", "ok"), ("bad a", "ok"), ("bad b", "ok"),
                  ("move a then a is b", "ok"), ("move b then b is a", "ok"), ("drop start", "ok"),
                  ("show", "lamps a b; start a; bad a; bad b; move a then a is b; move b then b is a"),
                  ("drop bad", "ok"), ("show", "lamps a b; start a; bad a; move a then a is b; move b then b is a"),
                  ("drop move", "ok"), ("show", "lamps a b; start a; bad a; move a then a is b"))


class Drawn(DeskCase):
    def test_machines(self):
        met = {"never": 0, "ever": 0, "long": 0, "bars": 0, "none": 0}
        for plain in DRAWN + WALKS:
            desk = self.desk_of(plain)
            self.check_all(desk, plain)
            judged = self.say(desk, "judge")
            met[judged.split(" ")[0]] += 1
            met["long"] += judged.startswith("ever") and len(judged.split(" ")) > 5
            met["bars"] += judged.startswith("never") and len(judged.split(" ")) > 2
            met["none"] += self.say(desk, "reach") == "none"
        self.assertGreater(min(met.values()), 20, met)

    def test_always(self):
        draw = random.Random(131)
        met = {"yes": 0, "no": 0}
        for plain in DRAWN:
            desk = self.desk_of(plain)
            for _ in range(4):
                met[self.check_always(desk, drawn_tree(draw, 2, len(plain.names)), plain)] += 1
        self.assertGreater(min(met.values()), 200, met)

    def test_rows_of_lines_at_two_desks(self):
        draw = random.Random(132)
        for _ in range(12):
            pairs = [[Desk(), None], [Desk(), None]]
            for pair in pairs:
                self.new_lamps(draw, pair)
            for _ in range(60):
                pair = draw.choice(pairs)
                self.deed(draw, pair)
                for desk, plain in pairs:
                    self.assertEqual(self.say(desk, "show"), "; ".join(due_lines(plain)))
            for desk, plain in pairs:
                self.check_all(desk, plain)

    def new_lamps(self, draw, pair):
        names = draw.sample(NAMES + ["x", "yy", "zzz"], draw.choice([1, 2, 2, 3, 3, 4]))
        pair[1] = PlainMachine(names, [], [], [])
        self.assertEqual(self.say(pair[0], with_blanks(draw, "lamps " + " ".join(names))), "ok")

    def deed(self, draw, pair):
        desk, plain = pair
        many = len(plain.names)
        lists = {"start": plain.starts, "bad": plain.bads, "move": plain.moves}
        sort = draw.choice(["start", "bad", "move", "move"])
        deed = draw.choice(["add"] * 6 + ["drop"] * 2 + ["ask"] * 3 + ["lamps"] * (draw.random() < 0.2))
        if deed == "add" and len(lists[sort]) < 8:
            self.add(draw, desk, plain, sort, lists[sort])
        elif deed == "drop" and lists[sort]:
            self.assertEqual(self.say(desk, "drop " + sort), "ok")
            lists[sort].pop()
        elif deed == "ask":
            self.check_all(desk, plain)
            self.check_always(desk, drawn_tree(draw, 1, many), plain)
        elif deed == "lamps":
            self.new_lamps(draw, pair)

    def add(self, draw, desk, plain, sort, things):
        many = len(plain.names)
        if sort == "move":
            things.append(drawn_move(draw, many))
            line = due_move_line(things[-1], plain.names)
        else:
            single = single_stand(draw.randrange(2 ** many), many)
            things.append(draw.choice([single, drawn_tree(draw, 2, many)]))
            line = f"{sort} {due_text(things[-1], plain.names)}"
        self.assertEqual(self.say(desk, with_blanks(draw, line)), "ok")

    def test_asked_again(self):
        for plain in DRAWN[::10]:
            desk = self.desk_of(plain)
            for _ in range(3):
                self.check_all(desk, plain)


class SixLamps(DeskCase):
    def quick(self, desk, line):
        before = time.perf_counter()
        told = self.say(desk, line)
        self.assertLess(time.perf_counter() - before, 5)
        return told

    def test_counter(self):
        desk = Desk()
        for line in COUNTER + ["bad a and b and c and d and e and f"]:
            self.assertEqual(self.quick(desk, line), "ok")
        stands = [f"{stand:06b}"[::-1] for stand in range(64)]
        self.assertEqual(self.quick(desk, "judge"), "ever " + " 1 ".join(stands))
        self.assertEqual(self.quick(desk, "reach"), "------")
        self.assertEqual(self.quick(desk, "always not f or f"), "yes")
        self.assertEqual(self.quick(desk, "always not (a and b and c and d and e and f)"), "no")

    def test_counter_that_never_comes_there(self):
        desk = Desk()
        lines = COUNTER[:2] + [COUNTER[2].replace("move yes", "move not (b and d and e and f)")]
        for line in lines + ["bad b and c and d and e and f"]:
            self.assertEqual(self.quick(desk, line), "ok")
        self.assertTrue(self.quick(desk, "judge").startswith("never "))
        self.quick(desk, "fence")
        self.quick(desk, "reach")
        self.assertEqual(self.quick(desk, "always not (b and c and d and e and f)"), "yes")

    def test_drawn(self):
        for plain in drawn_machines(133, [0, 0, 0, 0, 0, 25]):
            desk = self.desk_of(plain)
            self.check_judge(self.quick(desk, "judge"), plain)
            self.check_reach(self.quick(desk, "reach"), plain)
            if due_nearest(due_chart(plain)) is None:
                self.check_fence(self.quick(desk, "fence"), plain)


if __name__ == "__main__":
    unittest.main()
