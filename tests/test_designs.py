"""Designs (point 3)."""

import unittest

from flowborder.borders import is_sound
from flowborder.designs import is_design
from flowborder.errors import BadDesign, NotMade

from tests.helpers import ALWAYS_WRONG, calls_with_design, subsets

PROGRAM = (("open", "secret"), ())

WORDS = (
    "ends seen", "ifs", "marks", "prints", "prints seen", "splits", "steps seen", "stops", "straight", "tells",
    "under", "whiles",
)

WRONG_DESIGNS = [
    ("tells", "ifs"),
    ("ifs", "ends seen"),
    ("prints seen", "prints"),
    ("straight", "stops"),
    ("stops", "steps seen"),
    ("ends seen", "ifs", "whiles", "under"),
    tuple(reversed(WORDS)),
    ("ifs", "ifs"),
    ("ifs", "marks", "marks"),
    ("ends seen", "ends seen"),
    ("if",),
    ("",),
    ("Ifs",),
    ("ifs ",),
    ("ends",),
    ("seen",),
    ("ends  seen",),
    ("ifs", "loops"),
    ("ifs", "zebra"),
    WORDS + ("zebra",),
    ("ifs", 1),
    (1, "ifs"),
    (True,),
    (None,),
    (("ifs",),),
    ("ifs", ()),
    (["ifs"],),
    ({"ifs": True},),
    ["ifs"],
    [],
    {},
    {"ifs": True},
    "ifs",
    "",
    None,
    0,
    True,
    False,
]


class Designs(unittest.TestCase):
    def test_empty_design_and_all_words(self):
        self.assertIs(is_design(()), True)
        self.assertIs(is_design(WORDS), True)

    def test_each_word_and_each_pair(self):
        for word in WORDS:
            self.assertIs(is_design((word,)), True, word)
        for at, one in enumerate(WORDS):
            for by, other in enumerate(WORDS):
                self.assertIs(is_design((one, other)), at < by, (one, other))

    def test_all_ascending_tuples(self):
        many = [design for design in subsets(WORDS) if is_design(design)]
        self.assertEqual(len(many), 4096)

    def test_each_word_left_out(self):
        for word in WORDS:
            rest = tuple(other for other in WORDS if other != word)
            self.assertIs(is_design(rest), True, word)
            self.assertIs(is_design(rest + (word,)), word == "whiles", word)

    def test_wrong_designs(self):
        for at, value in enumerate(WRONG_DESIGNS + ALWAYS_WRONG):
            self.assertIs(is_design(value), False, at)

    def test_bad_design_is_raised(self):
        for at, value in enumerate(WRONG_DESIGNS + ALWAYS_WRONG):
            for call in calls_with_design(value, PROGRAM, (0, 0)):
                with self.subTest(at=at), self.assertRaises(BadDesign):
                    call()

    def test_right_designs_are_taken(self):
        for design in ((), WORDS, ("ifs",), ("ends seen", "whiles")):
            for call in calls_with_design(design, PROGRAM, (0, 0)):
                try:
                    call()
                except NotMade:
                    self.assertFalse(is_sound(design))


if __name__ == "__main__":
    unittest.main()
