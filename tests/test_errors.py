"""The errors (point 1 and the interface)."""

import unittest

from flowborder import errors
from flowborder.errors import (
    BadDesign, BadProgram, BadStart, FlowError, InvalidText, NotMade, NothingToUndo, NotNow, NotText,
)

PLAIN = (BadDesign, BadStart, NotMade, NotText, NotNow, NothingToUndo)


class Errors(unittest.TestCase):
    def test_flow_error_is_a_direct_subclass_of_value_error(self):
        self.assertEqual(FlowError.__bases__, (ValueError,))

    def test_all_others_are_direct_subclasses_of_flow_error(self):
        for error in PLAIN + (BadProgram, InvalidText):
            self.assertEqual(error.__bases__, (FlowError,), error)

    def test_there_are_eight_of_them(self):
        found = {x for x in vars(errors).values() if isinstance(x, type) and x is not FlowError}
        self.assertEqual(found, set(PLAIN + (BadProgram, InvalidText)))

    def test_names(self):
        names = [error.__name__ for error in PLAIN + (BadProgram, InvalidText)]
        self.assertEqual(names, [
            "BadDesign", "BadStart", "NotMade", "NotText", "NotNow", "NothingToUndo", "BadProgram", "InvalidText",
        ])

    def test_fields_are_set_when_created(self):
        for part in (None, 0, 1):
            self.assertIs(BadProgram(part).part, part)
            self.assertIs(BadProgram(part=part).part, part)
        self.assertEqual(InvalidText(3).line, 3)
        self.assertEqual(InvalidText(line=4).line, 4)

    def test_they_can_be_raised_and_caught(self):
        for error in [kind("x") for kind in PLAIN] + [BadProgram(0), InvalidText(1)]:
            with self.assertRaises(FlowError) as caught:
                raise error
            self.assertIs(caught.exception, error)


if __name__ == "__main__":
    unittest.main()
