"""The refusals of the interface's part on evernever/errors.py."""

import unittest

from evernever import errors
from evernever.errors import EverError

REFUSALS = [
    errors.NoFormula, errors.NoChart, errors.NoStep, errors.NoLine, errors.NoName, errors.NoBar,
    errors.NotShut, errors.NoFrame, errors.NoFence, errors.NoMachine, errors.NothingLeft, errors.TooMany,
]


def taken_by(raised, name):
    try:
        raise raised("words")
    except name:
        return True
    except Exception:
        return False


class Refusals(unittest.TestCase):
    def test_twelve_under_their_own_names(self):
        self.assertEqual([refusal.__name__ for refusal in REFUSALS], [
            "NoFormula", "NoChart", "NoStep", "NoLine", "NoName", "NoBar",
            "NotShut", "NoFrame", "NoFence", "NoMachine", "NothingLeft", "TooMany",
        ])
        self.assertEqual(len(set(REFUSALS)), 12)

    def test_ever_error_is_a_value_error_and_no_refusal(self):
        self.assertEqual(EverError.__name__, "EverError")
        self.assertTrue(taken_by(EverError, ValueError))
        for refusal in REFUSALS:
            self.assertFalse(taken_by(EverError, refusal), refusal)

    def test_each_is_taken_by_its_own_name_and_those_above(self):
        for refusal in REFUSALS:
            with self.subTest(refusal=refusal.__name__):
                self.assertTrue(taken_by(refusal, refusal))
                self.assertTrue(taken_by(refusal, EverError))
                self.assertTrue(taken_by(refusal, ValueError))
                self.assertIsInstance(refusal("words"), EverError)
                self.assertIsInstance(refusal("words"), ValueError)

    def test_none_is_taken_by_the_name_of_another(self):
        for refusal in REFUSALS:
            for other in REFUSALS:
                if refusal is not other:
                    with self.subTest(refusal=refusal.__name__, other=other.__name__):
                        self.assertFalse(taken_by(refusal, other))
                        self.assertFalse(issubclass(refusal, other))


if __name__ == "__main__":
    unittest.main()
