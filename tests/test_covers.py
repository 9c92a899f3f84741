"""Points 2, 18 and 20: crowds told as bars."""

import random
import time
import unittest

from evernever.covers import cover
from plain import Case, crowd_in, is_cover


def parity(many, odd):
    """The stands with an odd, or even, number of lit lamps: no two of them lie in one bar of such alone."""
    return crowd_in(stand for stand in range(2 ** many) if f"{stand:b}".count("1") % 2 == odd)


class Covers(Case):
    def check(self, many, crowd):
        told = cover(many, crowd)
        stands = [stand for stand in range(2 ** many) if crowd >> stand & 1]
        self.assertIs(type(told), list)
        self.assertEqual(told, sorted(set(told)))
        for bar in told:
            self.assertIs(type(bar), tuple)
            self.assertEqual([type(part) for part in bar], [int, int])
            self.assertEqual((bar[0] >> many, bar[1] & ~bar[0]), (0, 0))
        self.assertTrue(is_cover(many, stands, told), (many, crowd, told))
        return told

    def test_what_is_no_cover(self):
        # The check itself: a stand too few, one too many, a needless bar, a needless lamp.
        self.assertTrue(is_cover(2, [0, 1, 2], [(1, 0), (2, 0)]))
        self.assertFalse(is_cover(2, [0, 1, 2], [(1, 0)]))
        self.assertFalse(is_cover(2, [0, 2], [(1, 0), (2, 0)]))
        self.assertFalse(is_cover(2, [0, 1, 2], [(1, 0), (2, 0), (3, 0)]))
        self.assertFalse(is_cover(2, [0, 1, 2], [(1, 0), (3, 1)]))

    def test_every_crowd_of_up_to_three_lamps(self):
        for many in (1, 2, 3):
            for crowd in range(2 ** 2 ** many):
                self.check(many, crowd)

    def test_drawn_crowds(self):
        draw = random.Random(63)
        for many, often in ((4, 400), (5, 150), (6, 60)):
            size = 2 ** many
            for _ in range(often):
                self.check(many, crowd_in(draw.sample(range(size), draw.randrange(size + 1))))
            for _ in range(20):
                self.check(many, crowd_in(draw.sample(range(size), draw.choice([1, 2, size - 2, size - 1]))))

    def test_no_stand_and_all_stands(self):
        for many in range(1, 7):
            self.assertEqual(self.check(many, 0), [])
            self.assertEqual(self.check(many, 2 ** 2 ** many - 1), [(0, 0)])

    def test_single_stands_and_lamps(self):
        for many in range(1, 7):
            for stand in range(2 ** many):
                self.assertEqual(self.check(many, 2 ** stand), [(2 ** many - 1, stand)])
            for lamp in range(many):
                lit = crowd_in(stand for stand in range(2 ** many) if stand >> lamp & 1)
                self.assertEqual(self.check(many, lit), [(2 ** lamp, 2 ** lamp)])

    def test_parities(self):
        for many in range(1, 7):
            for odd in (0, 1):
                self.assertEqual(len(self.check(many, parity(many, odd))), 2 ** (many - 1))

    def test_asked_again(self):
        draw = random.Random(64)
        for many in range(1, 7):
            for _ in range(15):
                crowd, other = draw.randrange(2 ** 2 ** many), draw.randrange(2 ** 2 ** many)
                first = cover(many, crowd)
                copy = list(first)
                told = cover(many, other)
                told.append((0, 0))
                self.assertEqual(first, copy)
                first.clear()
                self.assertEqual(sorted(cover(many, crowd)), copy)
                self.check(many, crowd)

    def test_time(self):
        draw = random.Random(65)
        crowds = [parity(6, 0), parity(6, 1), 2 ** 64 - 1, 2 ** 64 - 2] + [draw.randrange(2 ** 64) for _ in range(20)]
        for crowd in crowds:
            before = time.perf_counter()
            cover(6, crowd)
            self.assertLess(time.perf_counter() - before, 2)


if __name__ == "__main__":
    unittest.main()
