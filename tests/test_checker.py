"""The checker (points 4 and 5)."""

import unittest

from flowborder.checker import fault, lets_by

from tests.helpers import SEEN, STRENGTHS, subsets

# Names 0 and 2 are open, names 1 and 3 are secret.
SORTS = ("open", "secret", "open", "secret")
STOP = ("stop",)
ALL = tuple(sorted(STRENGTHS + SEEN))

# (statement, the words it needs in the open, the words it needs under a secret)
NEEDS = [
    (("sum", 0, (), 1), "", "under"),
    (("sum", 0, (0,), 1), "", "under"),
    (("sum", 0, (0, 2), 1), "", "under"),
    (("sum", 0, (1,), 1), "straight", "straight under"),
    (("sum", 0, (1, 2), 1), "straight", "straight under"),
    (("sum", 0, (2, 1), 1), "straight", "straight under"),
    (("sum", 0, (1, 3), 1), "straight", "straight under"),
    (("sum", 1, (), 1), "", ""),
    (("sum", 1, (0,), 1), "", ""),
    (("sum", 1, (0, 3), 1), "", ""),
    (("sum", 1, (1, 1), 1), "", ""),
    (("if", 0, (), ()), "", ""),
    (("if", 1, (), ()), "ifs", "ifs"),
    (("times", 0, ()), "", ""),
    (("times", 3, ()), "", ""),
    (("while", 0, ()), "", "whiles"),
    (("while", 1, ()), "whiles", "whiles"),
    (("print", 0), "", "prints"),
    (("print", 1), "tells", "prints tells"),
    (("stop",), "", "stops"),
    (("split", 0, 2), "", "splits under"),
    (("split", 0, 1), "splits straight", "splits straight under"),
    (("split", 1, 0), "", "splits"),
    (("split", 1, 3), "splits", "splits"),
    (("split", 1, 1), "splits", "splits"),
    (("keep", "open", 0, 2), "", "under"),
    (("keep", "open", 0, 1), "straight", "straight under"),
    (("keep", "open", 1, 0), "marks", "marks under"),
    (("keep", "open", 1, 3), "marks straight", "marks straight under"),
    (("keep", "open", 1, 1), "marks straight", "marks straight under"),
    (("keep", "secret", 0, 2), "", ""),
    (("keep", "secret", 0, 1), "", ""),
    (("keep", "secret", 1, 0), "", ""),
    (("keep", "secret", 1, 3), "", ""),
    (("fetch", "open", 0, 2), "", "under"),
    (("fetch", "open", 0, 1), "straight", "straight under"),
    (("fetch", "secret", 0, 2), "straight", "straight under"),
    (("fetch", "secret", 0, 1), "straight", "straight under"),
    (("fetch", "open", 1, 0), "", ""),
    (("fetch", "open", 1, 3), "", ""),
    (("fetch", "secret", 1, 0), "", ""),
    (("fetch", "secret", 1, 3), "", ""),
]

# (a maker of a statement around another one, the place in it, whether it makes secret, the words it needs itself)
AROUND = [
    (lambda row: ("times", 2, (row,)), (0,), False, ""),
    (lambda row: ("if", 0, (row,), ()), (0, 0), False, ""),
    (lambda row: ("if", 0, (), (row,)), (1, 0), False, ""),
    (lambda row: ("while", 0, (row,)), (0,), False, ""),
    (lambda row: ("if", 1, (row,), ()), (0, 0), True, "ifs"),
    (lambda row: ("if", 1, (), (row,)), (1, 0), True, "ifs"),
    (lambda row: ("while", 1, (row,)), (0,), True, "whiles"),
]


def design_of(words):
    return tuple(sorted(set(words)))


def all_but(*words):
    return tuple(word for word in ALL if word not in words)


class Checker(unittest.TestCase):
    def assert_fault(self, design, body, place):
        program = (SORTS, body)
        self.assertEqual(fault(design, program), place, (design, body))
        self.assertIs(lets_by(design, program), place is None, (design, body))

    def test_empty_program(self):
        self.assert_fault((), (), None)
        self.assert_fault(ALL, (), None)

    def test_the_whole_design_lets_all_by(self):
        for row, _, _ in NEEDS:
            for around, _, _, _ in AROUND:
                self.assert_fault(ALL, (row, around(row)), None)
                self.assert_fault(STRENGTHS, (row, around(row)), None)

    def test_each_statement_by_each_design(self):
        designs = subsets(STRENGTHS)
        for row, needs, _ in NEEDS:
            for design in designs:
                place = None if set(needs.split()) <= set(design) else (0,)
                self.assert_fault(design, (row,), place)

    def test_each_statement_within_another_by_each_design(self):
        designs = subsets(STRENGTHS)
        for row, needs, needs_under in NEEDS:
            for around, at, secret, own in AROUND:
                needed = set((needs_under if secret else needs).split())
                body = (STOP, around(row))
                for design in designs:
                    place = None
                    if not set(own.split()) <= set(design):
                        place = (1,)
                    elif not needed <= set(design):
                        place = (1,) + at
                    self.assert_fault(design, body, place)

    def test_each_statement_two_deep(self):
        for row, needs, needs_under in NEEDS:
            if row[0] in ("if", "times", "while"):
                continue
            for outer, at, secret, own in AROUND:
                for inner, further, also, more in AROUND:
                    needed = set((needs_under if secret or also else needs).split())
                    around = set(own.split() + more.split())
                    if secret and inner(STOP)[0] == "while":
                        around.add("whiles")
                    body = (outer(inner(row)),)
                    self.assert_fault(design_of(needed | around), body, None)
                    for word in needed - around:
                        self.assert_fault(design_of((needed | around) - {word}), body, (0,) + at + further)
                        self.assert_fault(all_but(word), body, (0,) + at + further)
                    for word in around - set(own.split()):
                        self.assert_fault(all_but(word), body, (0,) + at)
                    for word in set(own.split()):
                        self.assert_fault(all_but(word), body, (0,))

    def test_a_looker_changes_nothing(self):
        for row, needs, needs_under in NEEDS:
            self.assert_fault(SEEN, (row,), (0,) if needs else None)
            self.assert_fault(design_of(SEEN + tuple(needs.split())), (row,), None)
            words = SEEN + ("ifs",) + tuple(needs_under.split())
            self.assert_fault(design_of(words), (("if", 1, (row,), ()),), None)

    def test_a_word_alone_lets_only_its_own_by(self):
        for row, needs, _ in NEEDS:
            for word in STRENGTHS:
                place = (0,) if set(needs.split()) - {word} else None
                self.assert_fault((word,), (row, STOP), place)

    def test_first_fault_in_the_body(self):
        bad = ("print", 1)
        for many in range(8):
            self.assert_fault((), (STOP,) * many + (bad,), (many,))
            self.assert_fault((), (STOP,) * many + (bad,) * (8 - many), (many,))

    def test_first_fault_in_an_if(self):
        bad, good = ("print", 1), ("print", 0)
        self.assert_fault((), (("if", 0, (good, bad), (bad,)),), (0, 0, 1))
        self.assert_fault((), (("if", 0, (good, good), (good, good, bad)),), (0, 1, 2))
        self.assert_fault((), (good, good, ("if", 0, (), (bad, bad)), bad), (2, 1, 0))
        self.assert_fault((), (good, ("if", 2, (good,), (good,)), bad), (2,))
        self.assert_fault((), (("if", 2, (good, good, good, bad), ()), bad), (0, 0, 3))

    def test_first_fault_in_times_and_while(self):
        bad, good = ("print", 1), ("print", 0)
        self.assert_fault((), (("times", 0, (good, bad, bad)),), (0, 1))
        self.assert_fault((), (good, ("times", 3, (good, good, good, bad)), bad), (1, 3))
        self.assert_fault((), (("while", 0, (bad,)), bad), (0, 0))
        self.assert_fault((), (good, good, ("while", 2, (good, good, bad))), (2, 2))
        self.assert_fault((), (("while", 0, (good,)), ("times", 1, (good,)), bad), (2,))

    def test_first_fault_two_deep(self):
        bad, good = ("print", 1), ("print", 0)
        self.assert_fault((), (good, ("times", 2, (good, ("if", 0, (good,), (good, bad))))), (1, 1, 1, 1))
        self.assert_fault((), (("if", 0, (), (good, good, ("while", 0, (good, good, good, bad)))),), (0, 1, 2, 3))
        self.assert_fault((), (("while", 0, (good, ("times", 1, (bad,)), bad)),), (0, 1, 0))
        self.assert_fault((), (("if", 0, (("if", 2, (), (bad,)),), (bad,)),), (0, 0, 0, 1, 0))
        self.assert_fault((), (("if", 0, (("if", 2, (), ()),), (good, bad)), bad), (0, 1, 1))

    def test_if_and_while_are_looked_at_ahead_of_their_bodies(self):
        bad = ("print", 1)
        self.assert_fault((), (("if", 1, (bad,), (bad,)),), (0,))
        self.assert_fault(("ifs",), (("if", 1, (bad,), (bad,)),), (0, 0, 0))
        self.assert_fault((), (STOP, ("while", 1, (bad,))), (1,))
        self.assert_fault(("whiles",), (STOP, ("while", 1, (bad,))), (1, 0))
        self.assert_fault(("ifs",), (("if", 1, (), (("while", 0, (bad,)),)),), (0, 1, 0))
        self.assert_fault(("ifs", "whiles"), (("if", 1, (), (("while", 0, (bad,)),)),), (0, 1, 0, 0))
        self.assert_fault((), (("times", 1, (("if", 1, (bad,), ()),)),), (0, 0))
        self.assert_fault((), (("while", 0, (STOP, ("if", 1, (bad,), ()), bad)),), (0, 1))

    def test_under_a_secret_holds_for_both_bodies_and_deeper(self):
        stop_deep = [
            ("if", 1, (("if", 0, (), (STOP,)),), ()),
            ("if", 1, (("times", 1, (STOP,)),), ()),
        ]
        for row in stop_deep:
            self.assertIsNotNone(fault(("ifs",), (SORTS, (row,))))
            self.assert_fault(("ifs", "stops"), (row,), None)
        self.assert_fault(("ifs",), (("if", 1, (), (("times", 1, (STOP,)),)),), (0, 1, 0, 0))
        self.assert_fault(("ifs",), (("if", 1, (), (("if", 0, (), (STOP,)),)),), (0, 1, 0, 1, 0))
        self.assert_fault(("ifs",), (("times", 1, (("if", 1, (), (STOP,)),)),), (0, 0, 1, 0))
        self.assert_fault(("ifs", "whiles"), (("while", 1, (("if", 0, (), (STOP,)),)),), (0, 0, 1, 0))

    def test_nothing_is_under_a_secret_behind_it(self):
        for row, needs, _ in NEEDS:
            design = design_of(["ifs", "whiles"] + needs.split())
            body = (("if", 1, (), ()), row, ("while", 1, ()), row, ("times", 1, (("if", 3, (), ()), row)), row)
            self.assert_fault(design, body, None)

    def test_an_open_statement_after_a_secret_one_in_a_branch(self):
        body = (("if", 0, (("if", 1, (), ()), STOP), (STOP,)), ("while", 0, (("if", 1, (), ()), ("print", 0))))
        self.assert_fault(("ifs",), body, None)

    def test_sorts_are_those_of_the_program(self):
        self.assertEqual(fault((), (("secret", "open"), (("print", 1), ("print", 0)))), (1,))
        self.assertIsNone(fault((), (("open",) * 6, (("print", 5), ("sum", 3, (4, 5), 1)))))
        self.assertEqual(fault((), (("open",) * 5 + ("secret",), (("sum", 0, (4, 5), 1),))), (0,))


if __name__ == "__main__":
    unittest.main()
