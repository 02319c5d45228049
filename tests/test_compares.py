"""Designs compared (points 11 and 12)."""

import unittest
from random import Random

from flowborder.checker import fault, lets_by
from flowborder.compares import lets_by_all, parting, sees_all, strengths, unseen
from flowborder.errors import BadDesign
from flowborder.looks import alike

from tests.helpers import ALWAYS_WRONG, DESIGNS, PAIR, SEEN, STRENGTHS, subsets
from tests.oracle import some_programs

BRANCHING = ("ifs", "whiles")
BRANCHED = ("prints", "stops", "under")
LOOKERS = subsets(SEEN)
CHECKERS = subsets(STRENGTHS)

PLAIN_BODIES = {
    "ifs": (("if", 1, (), ()),),
    "whiles": (("while", 1, ()),),
    "splits": (("split", 1, 1),),
    "marks": (("keep", "open", 1, 0),),
    "straight": (("sum", 0, (1,), 0),),
    "tells": (("print", 1),),
}
STATEMENTS = {"prints": ("print", 0), "stops": ("stop",), "under": ("sum", 0, (), 1)}
UNSEEN = {
    "ends seen": (("while", 1, ()),),
    "prints seen": (("print", 1),),
    "steps seen": (("if", 1, (("sum", 1, (), 0),), ()),),
}


def made(*words):
    return tuple(sorted(words))


def expected_strengths(design):
    found = set(design) - set(SEEN)
    if not found & set(BRANCHING):
        found -= set(BRANCHED)
    return tuple(sorted(found))


def all_pairs_of_checkers_and_some():
    """All pairs over the words that hang together, and some over all words."""
    hanging = subsets(BRANCHING + BRANCHED + ("tells",))
    pairs = [(one, other) for one in hanging for other in hanging]
    chance = Random(11)
    return pairs + [(chance.choice(DESIGNS), chance.choice(DESIGNS)) for _ in range(4000)]


class Strengths(unittest.TestCase):
    def test_each_design(self):
        for design in DESIGNS:
            self.assertEqual(strengths(design), expected_strengths(design))

    def test_the_three_that_need_a_branch(self):
        for word in BRANCHED:
            self.assertEqual(strengths((word,)), ())
            self.assertEqual(strengths(made(word, "tells")), ("tells",))
            self.assertEqual(strengths(made(word, "ifs")), made(word, "ifs"))
            self.assertEqual(strengths(made(word, "whiles")), made(word, "whiles"))
            self.assertEqual(strengths(made(word, *BRANCHING)), made(word, *BRANCHING))

    def test_the_looker_counts_for_nothing(self):
        for looker in LOOKERS:
            self.assertEqual(strengths(looker), ())
            self.assertEqual(strengths(made("ifs", "stops", *looker)), ("ifs", "stops"))


class LetsByAll(unittest.TestCase):
    def test_pairs(self):
        counts = {True: 0, False: 0}
        for one, other in all_pairs_of_checkers_and_some():
            expected = set(expected_strengths(other)) <= set(expected_strengths(one))
            self.assertIs(lets_by_all(one, other), expected, (one, other))
            counts[expected] += 1
        self.assertGreater(min(counts.values()), 500)

    def test_a_design_lets_by_all_that_itself_does(self):
        for design in DESIGNS:
            self.assertIs(lets_by_all(design, design), True)
            self.assertIs(lets_by_all(design, ()), True)
            self.assertIs(lets_by_all(DESIGNS[-1], design), True)

    def test_words_that_come_to_nothing(self):
        for word in BRANCHED:
            self.assertIs(lets_by_all((), (word,)), True)
            self.assertIs(lets_by_all(("ifs",), (word,)), True)
            self.assertIs(lets_by_all(("ifs",), made(word, "ifs")), False)
            self.assertIs(lets_by_all(("whiles",), made(word, "whiles")), False)
            self.assertIs(lets_by_all((word,), made(word, "whiles")), False)

    def test_programs_agree(self):
        programs = [program for program, _ in some_programs(400, 12, most_names=3)]
        programs += [(PAIR, body) for body in PLAIN_BODIES.values()]
        programs += [(PAIR, (("if", 1, (row,), ()),)) for row in STATEMENTS.values()]
        programs += [(PAIR, (("while", 1, (row,)),)) for row in STATEMENTS.values()]
        # For each checker the set of the programs that it lets by, as a number.
        letting = {}
        for checker in CHECKERS:
            letting[checker] = sum(1 << k for k, program in enumerate(programs) if lets_by(checker, program))
        for one in CHECKERS[::3]:
            for other in CHECKERS[::2]:
                self.assertEqual(lets_by_all(one, other), not letting[other] & ~letting[one], (one, other))


class Parting(unittest.TestCase):
    def expected(self, one, other):
        had = expected_strengths(one)
        lacking = [word for word in expected_strengths(other) if word not in had]
        if not lacking:
            return None
        if lacking[0] in PLAIN_BODIES:
            return PAIR, PLAIN_BODIES[lacking[0]]
        row = STATEMENTS[lacking[0]]
        return PAIR, (("if", 1, (row,), ()),) if "ifs" in other else (("while", 1, (row,)),)

    def test_pairs(self):
        for one, other in all_pairs_of_checkers_and_some():
            found = parting(one, other)
            self.assertEqual(found, self.expected(one, other), (one, other))
            self.assertIs(lets_by_all(one, other), found is None)
            if found is not None:
                self.assertIsNone(fault(other, found), (one, other))
                self.assertIsNotNone(fault(one, found), (one, other))

    def test_each_plain_word(self):
        for word, body in PLAIN_BODIES.items():
            rest = tuple(other for other in sorted(STRENGTHS) if other != word)
            self.assertEqual(parting((), (word,)), (PAIR, body))
            if word not in BRANCHING:
                self.assertEqual(parting(rest, (word,)), (PAIR, body))
                self.assertEqual(parting(rest, made(*STRENGTHS)), (PAIR, body))

    def test_each_word_under_a_secret(self):
        for word, row in STATEMENTS.items():
            by_if, by_while = (PAIR, (("if", 1, (row,), ()),)), (PAIR, (("while", 1, (row,)),))
            self.assertIsNone(parting((), (word,)))
            self.assertEqual(parting(("ifs",), made(word, "ifs")), by_if)
            self.assertEqual(parting(("whiles",), made(word, "whiles")), by_while)
            self.assertEqual(parting(BRANCHING, made(word, *BRANCHING)), by_if)
            self.assertEqual(parting(BRANCHING, made(word, "whiles")), by_while)
            self.assertEqual(parting(("whiles",), made(word, "ifs"))[1], PLAIN_BODIES["ifs"])

    def test_a_word_that_one_holds_for_nothing(self):
        for word, row in STATEMENTS.items():
            self.assertEqual(parting((word,), made(word, "whiles")), (PAIR, (("while", 1, (row,)),)))
            self.assertEqual(parting((word,), made(word, "ifs")), (PAIR, PLAIN_BODIES["ifs"]))

    def test_the_least_word(self):
        self.assertEqual(parting((), made(*STRENGTHS))[1], PLAIN_BODIES["ifs"])
        self.assertEqual(parting(("ifs",), made(*STRENGTHS))[1], PLAIN_BODIES["marks"])
        self.assertEqual(parting((), ("ends seen", "splits", "straight"))[1], PLAIN_BODIES["splits"])
        self.assertEqual(parting(("whiles",), ("stops", "under", "whiles"))[1], (("while", 1, (("stop",),)),))


class Sights(unittest.TestCase):
    def each_pair(self):
        for one in LOOKERS:
            for other in LOOKERS:
                yield one, other
                yield made("ifs", "stops", *one), other
                yield one, made("ifs", "whiles", *other)
                yield made(*STRENGTHS, *one), made(*STRENGTHS, *other)

    def test_sees_all(self):
        for one, other in self.each_pair():
            self.assertIs(sees_all(one, other), not (set(other) & set(SEEN)) - set(one), (one, other))

    def test_unseen(self):
        for one, other in self.each_pair():
            lacking = [word for word in SEEN if word in other and word not in one]
            expected = ((PAIR, UNSEEN[lacking[0]]), (0, 0), (0, 1)) if lacking else None
            self.assertEqual(unseen(one, other), expected, (one, other))
            self.assertIs(sees_all(one, other), expected is None)

    def test_the_runs_look_so(self):
        for one, other in self.each_pair():
            found = unseen(one, other)
            if found is not None:
                self.assertIs(alike(one, *found), True, (one, other))
                self.assertIs(alike(other, *found), False, (one, other))

    def test_runs_agree(self):
        looks = []
        for (sorts, body), start in some_programs(400, 13, most_names=3):
            other = tuple((n + 3) % 10 if sort == "secret" else n for sort, n in zip(sorts, start))
            looks.append([alike(looker, (sorts, body), start, other) for looker in LOOKERS])
        for at, one in enumerate(LOOKERS):
            for also, other in enumerate(LOOKERS):
                if sees_all(one, other):
                    self.assertFalse([row for row in looks if row[at] and not row[also]], (one, other))

    def test_strengths_count_for_nothing(self):
        self.assertIs(sees_all((), made(*STRENGTHS)), True)
        self.assertIsNone(unseen((), made(*STRENGTHS)))
        self.assertIs(sees_all(made(*STRENGTHS), ("steps seen",)), False)


class WrongDesigns(unittest.TestCase):
    def test_each_place(self):
        for wrong in [("tells", "ifs"), ("ifs", "ifs"), ("seen",)] + ALWAYS_WRONG:
            for function in (lets_by_all, parting, sees_all, unseen):
                for arguments in ((wrong, ()), ((), wrong), (wrong, wrong), (DESIGNS[-1], wrong), (wrong, DESIGNS[-1])):
                    with self.assertRaises(BadDesign):
                        function(*arguments)
            with self.assertRaises(BadDesign):
                strengths(wrong)


if __name__ == "__main__":
    unittest.main()
