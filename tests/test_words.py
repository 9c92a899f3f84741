"""Point 8: how a text is cut into words."""

import string
import unittest

from evernever.words import words

GOOD_SIGNS = string.ascii_lowercase + "(), "

OTHER_SIGNS = (
    [chr(number) for number in range(256) if chr(number) not in GOOD_SIGNS]
    + ["\u0430", "\u0131", "\u017f", "\uff41", "\uff08", "\uff09", "\uff0c", "\u3000", "\u2003", "\u200b"]
    + ["\u2028", "\ufeff", "\u0301", "\u0660", "\U0001d41a", "\U0001f4a1", "\ud800"]
)

GOOD_TEXTS = ["", " ", "a", "and or", "a and (b or c)", "move a then a is b, b is not a", "(,)"]


class Cut(unittest.TestCase):
    def test_letters_side_by_side(self):
        self.assertEqual(words("a"), ["a"])
        self.assertEqual(words("abc"), ["abc"])
        self.assertEqual(words("lamps a b"), ["lamps", "a", "b"])
        self.assertEqual(words("notaword and thennot"), ["notaword", "and", "thennot"])
        self.assertEqual(words(string.ascii_lowercase), [string.ascii_lowercase])
        self.assertEqual(words(" ".join(string.ascii_lowercase)), list(string.ascii_lowercase))

    def test_brackets_and_commas_are_words(self):
        self.assertEqual(words("("), ["("])
        self.assertEqual(words(")"), [")"])
        self.assertEqual(words(","), [","])
        self.assertEqual(words("(())"), ["(", "(", ")", ")"])
        self.assertEqual(words(",,(,)"), [",", ",", "(", ",", ")"])
        self.assertEqual(words(")("), [")", "("])

    def test_with_and_without_blanks_beside_them(self):
        due = ["not", "(", "a", "and", "b", ")", ",", "c", "is", "(", "d", ")"]
        for text in ("not(a and b),c is(d)", "not (a and b), c is (d)",
                     "not ( a and b ) , c is ( d )", " not( a and b) ,c is (d ) "):
            self.assertEqual(words(text), due)

    def test_brackets_and_commas_part_letters(self):
        self.assertEqual(words("a(b"), ["a", "(", "b"])
        self.assertEqual(words("a)b"), ["a", ")", "b"])
        self.assertEqual(words("a,b"), ["a", ",", "b"])
        self.assertEqual(words("aa(bb)cc,dd"), ["aa", "(", "bb", ")", "cc", ",", "dd"])

    def test_several_blanks(self):
        for ahead in ("", " ", "   "):
            for between in (" ", "  ", "       "):
                for behind in ("", " ", "    "):
                    self.assertEqual(words(ahead + "ab" + between + "cd" + behind), ["ab", "cd"])

    def test_no_words(self):
        self.assertEqual(words(""), [])
        for many in (1, 2, 3, 40):
            self.assertEqual(words(" " * many), [])

    def test_kinds(self):
        for text in GOOD_TEXTS:
            told = words(text)
            self.assertIs(type(told), list)
            self.assertEqual([type(word) for word in told], [str] * len(told))


class OtherSigns(unittest.TestCase):
    def test_alone(self):
        for sign in OTHER_SIGNS:
            self.assertIsNone(words(sign), ascii(sign))

    def test_anywhere_in_a_good_text(self):
        for sign in OTHER_SIGNS:
            for text in GOOD_TEXTS:
                for place in range(len(text) + 1):
                    self.assertIsNone(words(text[:place] + sign + text[place:]), (ascii(sign), text, place))

    def test_between_blanks_and_twice(self):
        for sign in OTHER_SIGNS:
            self.assertIsNone(words(f"a {sign} b"), ascii(sign))
            self.assertIsNone(words(f"{sign}a b{sign}"), ascii(sign))

    def test_good_texts_are_good(self):
        for text in GOOD_TEXTS:
            self.assertIsNotNone(words(text))

    def test_each_good_sign(self):
        for sign in GOOD_SIGNS:
            self.assertEqual(words(sign), [] if sign == " " else [sign])


class Long(unittest.TestCase):
    def test_four_thousand_signs(self):
        for text, due in (
            ("q" * 4000, ["q" * 4000]),
            (" " * 4000, []),
            ("(" * 2000 + ")" * 2000, ["("] * 2000 + [")"] * 2000),
            ("a " * 2000, ["a"] * 2000),
            ("a,(b)" * 800, ["a", ",", "(", "b", ")"] * 800),
            (" and(x)," * 500, ["and", "(", "x", ")", ","] * 500),
        ):
            # Told as a truth: the difference of lists so long takes too long to work out.
            self.assertTrue(words(text) == due, text[:20])

    def test_four_thousand_signs_with_another_sign(self):
        for text in ("q" * 3999, "a " * 1999, "(" * 3999):
            for place in (0, 2000, len(text)):
                self.assertIsNone(words(text[:place] + "A" + text[place:]))


if __name__ == "__main__":
    unittest.main()
