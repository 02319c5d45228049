"""Soundness (points 9 and 10)."""

import unittest
from itertools import combinations

from flowborder.borders import breaker, fewest_drops, greatest_sound, is_sound, lots, lots_in
from flowborder.checker import lets_by
from flowborder.errors import BadDesign, NotMade
from flowborder.looks import alike, leak
from flowborder.runs import run

from tests.helpers import ALWAYS_WRONG, DESIGNS, LOTS, PAIR, SEEN
from tests.oracle import expected_alike, some_programs

ONE, OTHER = (0, 0), (0, 1)

GREATEST = (
    ("ends seen", "ifs", "prints", "tells"),
    ("ends seen", "ifs", "prints seen"),
    ("ends seen", "prints", "prints seen", "steps seen", "stops", "under"),
    ("ends seen", "prints", "steps seen", "stops", "tells", "under"),
    ("ifs", "prints", "splits", "tells", "whiles"),
    ("ifs", "prints seen", "splits", "whiles"),
    ("prints", "prints seen", "splits", "steps seen", "stops", "under"),
    ("prints", "splits", "steps seen", "stops", "tells", "under"),
)


def expected_lots(design):
    return tuple(words for words, _ in LOTS if not set(words) - set(design))


SOUND = [design for design in DESIGNS if not expected_lots(design)]


class TheLots(unittest.TestCase):
    def test_as_they_stand_in_the_document(self):
        self.assertEqual(lots(), tuple(words for words, _ in LOTS))
        self.assertEqual(len(lots()), 13)
        self.assertIs(type(lots()), tuple)

    def test_ascending_and_each_a_design(self):
        self.assertEqual(list(lots()), sorted(set(lots())))
        for lot in lots():
            self.assertIn(lot, DESIGNS)

    def test_none_holds_another_one(self):
        for lot in lots():
            self.assertEqual(lots_in(lot), (lot,))

    def test_lots_in_of_each_design(self):
        self.assertEqual(len(DESIGNS), 4096)
        for design in DESIGNS:
            self.assertEqual(lots_in(design), expected_lots(design))
        self.assertEqual(lots_in(()), ())
        self.assertEqual(lots_in(DESIGNS[-1]), lots())


class Sound(unittest.TestCase):
    def test_each_design(self):
        for design in DESIGNS:
            self.assertIs(is_sound(design), not expected_lots(design), design)

    def test_sound_exactly_if_none_of_the_programs_leaks(self):
        # By the checker and the runs alone: does one of the programs that the design lets by tell something?
        told = {}
        for _, body in LOTS:
            for looker in [design for design in DESIGNS if set(design) <= set(SEEN)]:
                told[body, looker] = leak(looker, (PAIR, body), ONE) is not None
        for design in DESIGNS:
            looker = tuple(word for word in design if word in SEEN)
            broken = [body for _, body in LOTS if told[body, looker] and lets_by(design, (PAIR, body))]
            self.assertEqual(is_sound(design), not broken, design)

    def test_a_part_of_a_sound_design_is_sound(self):
        self.assertIs(is_sound(()), True)
        for design in SOUND:
            for word in design:
                self.assertIs(is_sound(tuple(other for other in design if other != word)), True)

    def test_no_program_breaks_a_greatest_design(self):
        counts = dict.fromkeys(GREATEST, 0)
        for (sorts, body), start in some_programs(1500, 9, most_names=3):
            letting = [design for design in GREATEST if lets_by(design, (sorts, body))]
            if not letting or "secret" not in sorts:
                continue
            one = run((sorts, body), start)
            for step in range(1, 10):
                other = tuple((n + step) % 10 if sort == "secret" else n for sort, n in zip(sorts, start))
                seen = run((sorts, body), other)
                for design in letting:
                    self.assertTrue(expected_alike(design, sorts, one, seen), (design, sorts, body, start, other))
            for design in letting:
                counts[design] += 1
        self.assertGreater(min(counts.values()), 100)


class Breaker(unittest.TestCase):
    def test_each_design(self):
        for design in DESIGNS:
            held = expected_lots(design)
            if held:
                self.assertEqual(breaker(design), ((PAIR, dict(LOTS)[held[0]]), ONE, OTHER))
            else:
                self.assertIsNone(breaker(design))

    def test_let_by_and_told_apart(self):
        for design in DESIGNS:
            found = breaker(design)
            if found is not None:
                program, one, other = found
                self.assertIs(lets_by(design, program), True, design)
                self.assertIs(alike(design, program, one, other), False, design)

    def test_the_least_lot_goes_first(self):
        self.assertEqual(breaker(("ifs", "stops", "under"))[0][1], (("if", 1, (("stop",),), ()), ("sum", 0, (), 1)))
        self.assertEqual(breaker(("marks", "straight"))[0][1], (("sum", 0, (), 1), ("keep", "open", 1, 0)))
        self.assertEqual(breaker(DESIGNS[-1])[0][1], (("split", 1, 1),))


class GreatestSound(unittest.TestCase):
    def test_eight_of_none(self):
        self.assertEqual(greatest_sound(()), GREATEST)

    def test_each_sound_design(self):
        self.assertEqual(len(SOUND), 179)
        largest = [one for one in SOUND if not any(set(one) < set(other) for other in SOUND)]
        for design in SOUND:
            expected = tuple(sorted(one for one in largest if set(design) <= set(one)))
            self.assertEqual(greatest_sound(design), expected)
            self.assertGreater(len(expected), 0)

    def test_of_a_greatest_one(self):
        for design in GREATEST:
            self.assertEqual(greatest_sound(design), (design,))

    def test_not_made_for_all_others(self):
        for design in DESIGNS:
            if expected_lots(design):
                with self.assertRaises(NotMade):
                    greatest_sound(design)

    def test_bad_design_goes_before_not_made(self):
        for design in [("straight", "marks"), ["marks"], ("marks", "marks"), ("marks", 0)] + ALWAYS_WRONG:
            with self.assertRaises(BadDesign):
                greatest_sound(design)


class FewestDrops(unittest.TestCase):
    def test_none_for_a_sound_design(self):
        for design in SOUND:
            self.assertEqual(fewest_drops(design), ())

    def test_each_design_by_trying(self):
        sound = set(SOUND)
        for design in DESIGNS:
            self.assertEqual(fewest_drops(design), self.tried(design, sound), design)

    def tried(self, design, sound):
        for many in range(len(design) + 1):
            for words in combinations(design, many):
                if tuple(word for word in design if word not in words) in sound:
                    return words
        return None

    def test_examples(self):
        self.assertEqual(fewest_drops(("marks",)), ("marks",))
        self.assertEqual(fewest_drops(("marks", "straight")), ("marks", "straight"))
        self.assertEqual(fewest_drops(("ends seen", "splits")), ("ends seen",))
        self.assertEqual(fewest_drops(("ends seen", "splits", "whiles")), ("ends seen",))
        self.assertEqual(fewest_drops(("ends seen", "splits", "stops", "whiles")), ("ends seen", "stops"))
        self.assertEqual(fewest_drops(("ends seen", "stops", "whiles")), ("whiles",))
        self.assertEqual(len(fewest_drops(DESIGNS[-1])), 6)

    def test_what_is_left_is_sound(self):
        for design in DESIGNS:
            drops = fewest_drops(design)
            self.assertIs(is_sound(tuple(word for word in design if word not in drops)), True)


if __name__ == "__main__":
    unittest.main()
