"""Looks and leaks (point 8)."""

import unittest
from itertools import product

from flowborder.checker import lets_by
from flowborder.errors import BadStart, NotMade
from flowborder.looks import alike, leak
from flowborder.runs import run

from tests.helpers import LOTS, PAIR, SEEN, STRENGTHS, subsets
from tests.oracle import expected_alike, some_programs

STOP = ("stop",)
LOOKERS = subsets(SEEN)

# Name 0 is open. Secret names: 1 and 2 choose how the run ends, 3 is left in name 0, 4 is printed if it is
# not 0, 5 makes a step more if it is not 0. Nothing else differs, above all not the steps.
KNOBS = (
    ("open",) + ("secret",) * 5,
    (
        ("sum", 0, (3,), 0),
        ("if", 4, (("print", 4),), (("sum", 4, (), 0),)),
        ("if", 5, (("sum", 5, (), 0),), ()),
        (
            "if", 1,
            (("if", 2, (STOP,), (("split", 1, 2),)),),
            (("sum", 1, (), 0), ("while", 2, ())),
        ),
    ),
)
CHOICES = {"stops": (1, 1), "breaks": (1, 0), "goes on": (0, 1), "ends": (0, 0)}
FINISHED = ("ends", "stops")


def knobs(how, left=0, printed=0, longer=0):
    return (0,) + CHOICES[how] + (left, printed, longer)


class Alike(unittest.TestCase):
    def assert_alike(self, design, program, one, other, expected):
        self.assertIs(alike(design, program, one, other), expected, (design, program, one, other))
        self.assertIs(alike(design, program, other, one), expected, (design, program, other, one))

    def each_pair(self):
        for how in CHOICES:
            for also in CHOICES:
                finished = how in FINISHED and also in FINISHED
                for looker in LOOKERS:
                    yield how, also, finished, looker, how == also or "ends seen" not in looker

    def test_the_knobs_work(self):
        for how in CHOICES:
            seen = run(KNOBS, knobs(how))
            self.assertEqual((seen[0], seen[1][0], seen[3], seen[4]), (how, 0, (), 7))
            seen = run(KNOBS, knobs(how, 6, 7, 8))
            self.assertEqual((seen[0], seen[1][0], seen[3], seen[4]), (how, 6, (7,), 8))

    def test_each_pair_of_endings(self):
        for how, also, _, looker, fits in self.each_pair():
            self.assert_alike(looker, KNOBS, knobs(how), knobs(also), fits)
            self.assert_alike(looker, KNOBS, knobs(how, 3, 4, 5), knobs(also, 3, 4, 5), fits)

    def test_open_names_left(self):
        for how, also, finished, looker, fits in self.each_pair():
            self.assert_alike(looker, KNOBS, knobs(how, 1), knobs(also, 2), fits and not finished)
            self.assert_alike(looker, KNOBS, knobs(how, 0), knobs(also, 9), fits and not finished)

    def test_steps(self):
        for how, also, finished, looker, fits in self.each_pair():
            expected = fits and not (finished and "steps seen" in looker)
            self.assert_alike(looker, KNOBS, knobs(how), knobs(also, longer=1), expected)
            self.assert_alike(looker, KNOBS, knobs(how, longer=2), knobs(also, longer=1), fits)

    def test_prints_of_which_none_begins_the_other(self):
        for how, also, _, looker, fits in self.each_pair():
            expected = fits and "prints seen" not in looker
            self.assert_alike(looker, KNOBS, knobs(how, printed=1), knobs(also, printed=2), expected)

    def test_prints_that_are_a_beginning(self):
        for how, also, finished, looker, fits in self.each_pair():
            expected = fits and not (finished and "prints seen" in looker)
            self.assert_alike(looker, KNOBS, knobs(how), knobs(also, printed=2), expected)

    def test_longer_beginnings(self):
        count_down = (PAIR, (("while", 1, (("print", 1), ("sum", 1, (1,), 9))), ("print", 0), ("split", 0, 0)))
        looker = ("prints seen",)
        self.assert_alike(looker, count_down, (0, 3), (0, 3), True)
        self.assert_alike(looker, count_down, (0, 3), (0, 2), False)
        self.assert_alike((), count_down, (0, 3), (0, 2), True)
        zeros = (PAIR, (("while", 1, (("print", 0), ("sum", 1, (1,), 9))), ("print", 0), ("split", 0, 0)))
        for one in range(10):
            for other in range(10):
                self.assert_alike(looker, zeros, (0, one), (0, other), True)
                self.assert_alike(("prints seen", "steps seen"), zeros, (0, one), (0, other), True)
                self.assert_alike(looker, zeros, (4, one), (4, other), one == other)
        marked = (PAIR, (("print", 0), ("print", 0), ("if", 1, (("print", 0),), (("print", 1),)), ("split", 0, 1)))
        self.assert_alike(looker, marked, (7, 0), (7, 1), False)
        self.assert_alike(looker, marked, (0, 0), (0, 1), True)

    def test_prints_of_the_same_length_at_the_end(self):
        program = (PAIR, (("print", 0), ("print", 1), ("print", 0)))
        self.assert_alike(("prints seen",), program, (1, 2), (1, 3), False)
        self.assert_alike(("ends seen", "steps seen"), program, (1, 2), (1, 3), True)

    def test_secret_names_and_the_secret_table_are_not_seen(self):
        for body in ((), (("keep", "secret", 1, 1),), (("keep", "secret", 0, 1),), (("fetch", "secret", 1, 0),)):
            for looker in LOOKERS:
                self.assert_alike(looker, (PAIR, body), (3, 2), (3, 5), True)

    def test_the_open_table_is_seen_at_the_end(self):
        for body in ((("keep", "open", 0, 1),), (("keep", "open", 1, 0),), (("keep", "open", 0, 1), STOP)):
            for looker in LOOKERS:
                self.assert_alike(looker, (PAIR, body), (3, 2), (3, 5), False)
                broken = (PAIR, body[:1] + (("sum", 0, (), 0), ("split", 0, 0)))
                self.assert_alike(looker, broken, (3, 2), (3, 5), True)

    def test_a_later_open_name_is_seen(self):
        program = (("open", "secret", "open", "secret"), (("sum", 2, (3,), 0),))
        self.assert_alike((), program, (1, 2, 3, 4), (1, 5, 3, 4), True)
        self.assert_alike((), program, (1, 2, 3, 4), (1, 2, 3, 5), False)

    def test_only_the_words_with_seen_matter(self):
        for looker in LOOKERS:
            design = tuple(sorted(looker + STRENGTHS))
            for one, other in ((knobs("ends"), knobs("stops")), (knobs("ends", 1), knobs("ends", 2))):
                self.assertIs(alike(design, KNOBS, one, other), alike(looker, KNOBS, one, other))
            self.assertIs(alike(design, (PAIR, (("print", 1),)), (0, 0), (0, 1)), "prints seen" not in looker)
        for word in STRENGTHS:
            self.assertIs(alike((word,), (PAIR, (("print", 1), ("if", 1, (STOP,), ()))), (0, 0), (0, 1)), True)

    def test_no_secret_names_at_all(self):
        program = (("open", "open"), (("sum", 0, (1,), 1), ("print", 0)))
        for looker in LOOKERS:
            self.assertIs(alike(looker, program, (1, 2), (1, 2)), True)

    def test_not_made_for_other_open_names(self):
        program = (("open", "secret", "open"), ())
        for one, other in (((1, 2, 3), (0, 2, 3)), ((1, 2, 3), (1, 2, 4)), ((1, 2, 3), (9, 9, 9))):
            with self.assertRaises(NotMade):
                alike((), program, one, other)
            with self.assertRaises(NotMade):
                alike(SEEN, program, other, one)
        self.assertIs(alike((), program, (1, 2, 3), (1, 9, 3)), True)
        with self.assertRaises(NotMade):
            alike((), (("open",), (("stop",),)), (1,), (2,))
        self.assertIs(alike((), (("secret",) * 6, ()), (1,) * 6, (2,) * 6), True)

    def test_bad_start_goes_before_not_made(self):
        program = (("open", "secret"), ())
        for one, other in (((1, 2), (0, 10)), ((10, 2), (1, 2)), ((1, True), (0, 0)), ((1, 2), (0,)), ((), (1, 2))):
            with self.assertRaises(BadStart):
                alike((), program, one, other)

    def test_many_programs_by_a_second_reading(self):
        counts = {True: 0, False: 0}
        for (sorts, body), start in some_programs(600, 2):
            changed = tuple((n + 3) % 10 if sort == "secret" else n for sort, n in zip(sorts, start))
            zeros = tuple(0 if sort == "secret" else n for sort, n in zip(sorts, start))
            for other in (changed, zeros):
                seen = run((sorts, body), start), run((sorts, body), other)
                for looker in LOOKERS:
                    expected = expected_alike(looker, sorts, *seen)
                    self.assert_alike(looker, (sorts, body), start, other, expected)
                    counts[expected] += 1
        self.assertGreater(min(counts.values()), 500)


class Leak(unittest.TestCase):
    def test_no_secret_names(self):
        for looker in LOOKERS:
            self.assertIsNone(leak(looker, (("open",), (("print", 0),)), (4,)))
            self.assertIsNone(leak(looker, (("open",) * 6, (("split", 0, 1),)), (4,) * 6))

    def test_none(self):
        self.assertIsNone(leak(("ends seen", "prints seen", "steps seen"), (PAIR, ()), (1, 2)))
        self.assertIsNone(leak((), (PAIR, (("print", 1), ("if", 1, (STOP,), ()))), (1, 2)))
        self.assertIsNone(leak((), (("secret", "secret"), (("sum", 0, (1,), 0),)), (1, 2)))
        self.assertIsNone(leak(("prints seen",), (("secret", "secret"), (("sum", 0, (1,), 0),)), (1, 2)))

    def test_one_secret_name(self):
        tells = (PAIR, (("print", 1),))
        self.assertEqual(leak(("prints seen",), tells, (7, 0)), (7, 1))
        for number in range(1, 10):
            self.assertEqual(leak(("prints seen",), tells, (7, number)), (7, 0))
        self.assertIsNone(leak(("ends seen", "steps seen"), tells, (7, 3)))
        self.assertEqual(leak((), (("secret", "open"), (("sum", 1, (0,), 0),)), (0, 6)), (1, 6))

    def test_the_least_start(self):
        # Name 0 is left as 9 divided by the secret number and one; from 9 the run breaks, and shows nothing.
        program = (PAIR, (("sum", 1, (1,), 1), ("split", 0, 1)))
        self.assertEqual(leak((), program, (0, 0)), (0, 1))
        self.assertEqual(leak((), program, (0, 4)), (0, 0))
        self.assertIsNone(leak((), program, (0, 9)))
        self.assertEqual(leak(("ends seen",), program, (0, 9)), (0, 0))
        nine = (PAIR, (("sum", 1, (1,), 1), ("if", 1, (), (("sum", 0, (0,), 1),))))
        for number in range(9):
            self.assertEqual(leak((), nine, (3, number)), (3, 9))
        self.assertEqual(leak((), nine, (3, 9)), (3, 0))

    def test_two_secret_names(self):
        sorts = ("secret", "open", "secret")
        self.assertEqual(leak((), (sorts, (("sum", 1, (0, 2), 0),)), (0, 5, 0)), (0, 5, 1))
        self.assertEqual(leak((), (sorts, (("sum", 1, (0, 2), 0),)), (0, 5, 1)), (0, 5, 0))
        self.assertEqual(leak((), (sorts, (("sum", 1, (0,), 0),)), (0, 5, 7)), (1, 5, 0))
        self.assertEqual(leak((), (sorts, (("sum", 1, (0,), 0),)), (4, 5, 7)), (0, 5, 0))
        self.assertEqual(leak((), (sorts, (("sum", 1, (2,), 0),)), (4, 5, 0)), (0, 5, 1))
        inner = ("if", 2, (), (("sum", 1, (1,), 1),))
        late = (sorts, (("sum", 0, (0,), 1), ("sum", 2, (2,), 1), ("if", 0, (), (inner,))))
        self.assertEqual(leak((), late, (0, 5, 0)), (9, 5, 9))
        self.assertEqual(leak((), late, (9, 5, 9)), (0, 5, 0))
        self.assertEqual(leak(("prints seen",), (("open",) * 4 + ("secret",) * 2, (("print", 5),)), (1, 2, 3, 4, 5, 6)),
                         (1, 2, 3, 4, 0, 0))
        self.assertEqual(leak(("prints seen",), (("secret",) * 2, (("print", 1),)), (9, 0)), (0, 1))

    def test_not_made_for_three_secret_names(self):
        for sorts in (("secret",) * 3, ("secret", "open", "secret", "secret"), ("secret",) * 6):
            with self.assertRaises(NotMade):
                leak((), (sorts, ()), (0,) * len(sorts))
            with self.assertRaises(NotMade):
                leak(("prints seen",), (sorts, (("print", 0),)), (1,) * len(sorts))
            with self.assertRaises(BadStart):
                leak((), (sorts, ()), (10,) + (0,) * (len(sorts) - 1))
            with self.assertRaises(BadStart):
                leak((), (sorts, ()), (0,) * (len(sorts) - 1))

    def test_each_word_of_the_looker(self):
        self.assertEqual(leak(("ends seen",), (PAIR, (("split", 1, 1),)), (0, 1)), (0, 0))
        self.assertIsNone(leak((), (PAIR, (("split", 1, 1),)), (0, 1)))
        self.assertEqual(leak(("steps seen",), (PAIR, (("if", 1, (("sum", 1, (), 0),), ()),)), (0, 1)), (0, 0))
        self.assertIsNone(leak(("ends seen", "prints seen"), (PAIR, (("if", 1, (("sum", 1, (), 0),), ()),)), (0, 1)))
        self.assertEqual(leak(("ends seen",), (PAIR, (("if", 1, (STOP,), ()),)), (0, 0)), (0, 1))

    def test_many_programs_by_trying_all_starts(self):
        counts = {True: 0, False: 0}
        for (sorts, body), start in some_programs(120, 3, most_names=3):
            if sorts.count("secret") > 2:
                continue
            expected = None
            for other in product(range(10), repeat=len(sorts)):
                same = all(a == b or sort == "secret" for sort, a, b in zip(sorts, start, other))
                if same and not expected_alike(SEEN, sorts, run((sorts, body), start), run((sorts, body), other)):
                    expected = other
                    break
            self.assertEqual(leak(SEEN, (sorts, body), start), expected, (sorts, body, start))
            counts[expected is None] += 1
        self.assertGreater(min(counts.values()), 20)


class LotsOfTheDocument(unittest.TestCase):
    """Point 9 tells programs that a checker lets by and a looker tells apart: points 4 to 8 must agree."""

    def test_let_by_and_told_apart(self):
        for words, body in LOTS:
            self.assertTrue(lets_by(words, (PAIR, body)), words)
            self.assertFalse(alike(words, (PAIR, body), (0, 0), (0, 1)), words)
            self.assertEqual(leak(words, (PAIR, body), (0, 0)), (0, 1), words)

    def test_not_without_one_of_the_words(self):
        for words, body in LOTS:
            for word in words:
                rest = tuple(other for other in words if other != word)
                self.assertFalse(
                    lets_by(rest, (PAIR, body)) and not alike(rest, (PAIR, body), (0, 0), (0, 1)), (words, word),
                )


if __name__ == "__main__":
    unittest.main()
