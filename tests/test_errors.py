"""Point 4, and the interface's part on plait/errors.py."""

import unittest

from plait import errors

WITH_TEXT = (
    "PlaitError", "NoCrossing", "TooBig", "NoUnit", "NotClosed", "NoFit", "TooMuch", "NoMove", "NoPrime", "NoLine",
)
REFUSALS = WITH_TEXT[1:] + ("NotADrawing", "NoChain")
FAULTS = (("walk", 0, 3), ("sign", 2), ("many", 41), None)
TEXTS = ("", "no", "a longer\ntext, with ~ and {braces}")
PLACES = (0, 1, 89, -1, 10 ** 59, -(10 ** 60) + 1)


def made_refusals():
    told = [(name, getattr(errors, name)(text)) for name in WITH_TEXT for text in TEXTS]
    told += [("NotADrawing", errors.NotADrawing(fault)) for fault in FAULTS]
    told += [("NoChain", errors.NoChain(at)) for at in PLACES]
    return told


class Refusals(unittest.TestCase):
    def test_there_are_eleven_under_plait_error(self):
        self.assertEqual(len(set(REFUSALS)), 11)
        for name in REFUSALS:
            self.assertEqual(getattr(errors, name).__bases__, (errors.PlaitError,))
        self.assertEqual(errors.PlaitError.__bases__, (ValueError,))

    def test_each_is_caught_as_itself_plait_error_and_value_error(self):
        for name, refusal in made_refusals():
            for caught_as in (getattr(errors, name), errors.PlaitError, ValueError):
                with self.assertRaises(caught_as) as caught:
                    raise refusal
                self.assertIs(caught.exception, refusal)

    def test_none_is_one_of_the_others(self):
        for name, refusal in made_refusals():
            for other in REFUSALS:
                self.assertEqual(isinstance(refusal, getattr(errors, other)), other == name)

    def test_fault_is_the_one_it_was_made_with(self):
        for one in FAULTS:
            for other in FAULTS:
                first = errors.NotADrawing(one)
                second = errors.NotADrawing(other)
                self.assertEqual((first.fault, second.fault, first.fault), (one, other, one))

    def test_at_is_the_one_it_was_made_with(self):
        for one in PLACES:
            for other in PLACES:
                first = errors.NoChain(one)
                second = errors.NoChain(other)
                self.assertEqual((first.at, second.at, first.at), (one, other, one))

    def test_str_can_be_asked(self):
        for name, refusal in made_refusals():
            self.assertIsInstance(str(refusal), str)


if __name__ == "__main__":
    unittest.main()
