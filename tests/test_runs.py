"""Starts and runs (points 6 and 7)."""

import unittest

from flowborder.errors import BadStart
from flowborder.programs import is_program
from flowborder.runs import run

from tests.helpers import ALWAYS_WRONG, EMPTY, calls_with_start
from tests.oracle import expected_run, some_programs

STOP = ("stop",)


def down(name):
    """Take one from a name, by the rest by 10."""
    return ("sum", name, (name,), 9)


def rounds_of(name):
    """As many rounds as the name's number."""
    return ("while", name, (down(name),))


def table(**places):
    return tuple(places.get(f"at{k}", 0) for k in range(10))


class Runs(unittest.TestCase):
    def assert_run(self, body, start, how, numbers, prints, steps, tables=(EMPTY, EMPTY)):
        program = (("open", "secret", "open")[:len(start)], body)
        self.assertEqual(run(program, start), (how, numbers, tables, prints, steps), (body, start))

    def test_empty_program(self):
        self.assert_run((), (7, 2, 9), "ends", (7, 2, 9), (), 0)
        self.assertEqual(run((("secret",), ()), (0,)), ("ends", (0,), (EMPTY, EMPTY), (), 0))

    def test_kinds_of_values(self):
        how, numbers, tables, prints, steps = run((("open",), (("print", 0),)), (4,))
        self.assertIs(type(run((("open",), ()), (4,))), tuple)
        self.assertIs(type(how), str)
        self.assertIs(type(numbers), tuple)
        self.assertEqual([type(tables)] + [type(cells) for cells in tables], [tuple] * 3)
        self.assertEqual([len(cells) for cells in tables], [10, 10])
        self.assertIs(type(prints), tuple)
        self.assertIs(type(steps), int)

    def test_sum(self):
        for n in range(10):
            self.assert_run((("sum", 0, (), n),), (7, 2), "ends", (n, 2), (), 1)
        self.assert_run((("sum", 0, (1,), 0),), (7, 2), "ends", (2, 2), (), 1)
        self.assert_run((("sum", 1, (0,), 2),), (7, 2), "ends", (7, 9), (), 1)
        self.assert_run((("sum", 1, (0,), 3),), (7, 2), "ends", (7, 0), (), 1)
        self.assert_run((("sum", 0, (0, 1), 0),), (4, 5), "ends", (9, 5), (), 1)
        self.assert_run((("sum", 0, (0, 1), 9),), (9, 9), "ends", (7, 9), (), 1)
        self.assert_run((("sum", 1, (0, 0), 1),), (4, 5), "ends", (4, 9), (), 1)
        self.assert_run((("sum", 0, (0, 0), 9),), (9, 5), "ends", (7, 5), (), 1)
        self.assert_run((("sum", 2, (0, 1), 0),), (4, 5, 8), "ends", (4, 5, 9), (), 1)
        self.assert_run((("sum", 0, (0,), 1), ("sum", 0, (0, 1), 0)), (1, 3), "ends", (5, 3), (), 2)

    def test_if(self):
        body = (("if", 1, (("sum", 0, (), 1),), (("sum", 0, (), 2), ("print", 0))),)
        self.assert_run(body, (7, 0), "ends", (2, 0), (2,), 3)
        for number in range(1, 10):
            self.assert_run(body, (7, number), "ends", (1, number), (), 2)
        self.assert_run((("if", 0, (), (STOP,)),), (1,), "ends", (1,), (), 1)
        self.assert_run((("if", 0, (STOP,), ()),), (0,), "ends", (0,), (), 1)
        self.assert_run((("if", 0, (), (STOP,)), ("print", 0)), (0,), "stops", (0,), (), 2)

    def test_if_does_one_branch_even_if_it_changes_the_name(self):
        body = (("if", 0, (("sum", 0, (), 0), ("print", 0)), (("sum", 0, (), 5),)), ("print", 0))
        self.assert_run(body, (3,), "ends", (0,), (0, 0), 4)
        self.assert_run(body, (0,), "ends", (5,), (5,), 3)

    def test_times(self):
        for n in range(4):
            body = (("times", n, (("sum", 0, (0,), 2), ("print", 0))), ("print", 1))
            prints = (3, 5, 7)[:n] + (8,)
            self.assert_run(body, (1, 8), "ends", (1 + 2 * n, 8), prints, 2 + 2 * n)
        self.assert_run((("times", 3, ()),), (1,), "ends", (1,), (), 1)
        self.assert_run((("times", 3, (("times", 3, (("sum", 0, (0,), 1),)),)),), (5,), "ends", (4,), (), 13)

    def test_while(self):
        for number in range(10):
            self.assert_run((rounds_of(0), ("print", 1)), (number, 4), "ends", (0, 4), (4,), 2 + number)
        body = (("while", 0, (("sum", 0, (), 0), ("print", 0), ("sum", 1, (), 6))),)
        self.assert_run(body, (9, 1), "ends", (0, 6), (0,), 4)
        self.assert_run((("while", 0, (("print", 0), down(0))),), (3,), "ends", (0,), (3, 2, 1), 7)

    def test_print(self):
        self.assert_run((("print", 0), ("print", 1), ("print", 0)), (7, 2), "ends", (7, 2), (7, 2, 7), 3)
        self.assert_run((("print", 0), ("sum", 0, (), 0), ("print", 0)), (7,), "ends", (0,), (7, 0), 3)

    def test_stop(self):
        self.assert_run((STOP,), (7,), "stops", (7,), (), 1)
        self.assert_run((("print", 0), STOP, ("print", 0), STOP), (7,), "stops", (7,), (7,), 2)
        self.assert_run((("sum", 0, (), 1), ("print", 0), STOP, ("sum", 0, (), 2)), (7,), "stops", (1,), (1,), 3)

    def test_split(self):
        for number, worth in zip(range(1, 10), (9, 4, 3, 2, 1, 1, 1, 1, 1)):
            self.assert_run((("split", 0, 1), ("print", 0)), (7, number), "ends", (worth, number), (worth,), 2)
            self.assert_run((("split", 0, 0),), (number, 0), "ends", (worth, 0), (), 1)
        self.assert_run((("split", 1, 0),), (2, 0), "ends", (2, 4), (), 1)

    def test_split_by_nothing_breaks(self):
        self.assert_run((("split", 0, 1), ("print", 0)), (7, 0), "breaks", (7, 0), (), 1)
        self.assert_run((("split", 0, 0),), (0, 5), "breaks", (0, 5), (), 1)
        self.assert_run((("print", 0), ("sum", 1, (), 0), ("split", 0, 1), STOP), (7, 3), "breaks", (7, 0), (7,), 3)

    def test_keep(self):
        for place in range(10):
            cells = table(**{f"at{place}": 7})
            self.assert_run((("keep", "open", 1, 0),), (7, place), "ends", (7, place), (), 1, (cells, EMPTY))
            self.assert_run((("keep", "secret", 1, 0),), (7, place), "ends", (7, place), (), 1, (EMPTY, cells))
        body = (("keep", "open", 0, 1), ("keep", "secret", 1, 0), ("keep", "open", 1, 1), ("keep", "open", 0, 0))
        tables = (table(at3=3, at8=8), table(at8=3))
        self.assert_run(body, (3, 8), "ends", (3, 8), (), 4, tables)

    def test_fetch(self):
        for sort in ("open", "secret"):
            self.assert_run((("fetch", sort, 0, 1),), (7, 2), "ends", (0, 2), (), 1)
            self.assert_run((("fetch", sort, 0, 0),), (7, 2), "ends", (0, 2), (), 1)
        for place in range(10):
            cells = table(**{f"at{place}": 7})
            body = (("keep", "open", 1, 0), ("fetch", "open", 2, 1), ("fetch", "secret", 0, 1), ("print", 2))
            self.assert_run(body, (7, place, 1), "ends", (0, place, 7), (7,), 4, (cells, EMPTY))
            body = (("keep", "secret", 1, 0), ("fetch", "secret", 2, 1), ("fetch", "open", 0, 1), ("print", 2))
            self.assert_run(body, (7, place, 1), "ends", (0, place, 7), (7,), 4, (EMPTY, cells))

    def test_halting_keeps_tables_and_prints(self):
        for last, how in ((STOP, "stops"), (("split", 0, 1), "breaks"), (("while", 0, ()), "goes on")):
            body = (("keep", "open", 1, 0), ("print", 0), last, ("keep", "open", 0, 0), ("print", 1))
            self.assert_run(body, (7, 0), how, (7, 0), (7,), 3, (table(at0=7), EMPTY))
            body = (("keep", "secret", 0, 0), ("print", 1), last, ("keep", "secret", 1, 0), ("print", 1))
            self.assert_run(body, (7, 0), how, (7, 0), (0,), 3, (EMPTY, table(at7=7)))

    def test_halting_within_inner_bodies(self):
        for last, how in ((STOP, "stops"), (("split", 0, 1), "breaks"), (("while", 0, ()), "goes on")):
            for around in (
                lambda body: ("if", 0, body, ()),
                lambda body: ("if", 1, (), body),
                lambda body: ("times", 3, body),
                lambda body: ("while", 0, body),
            ):
                body = (around((("print", 0), last, ("print", 1))), ("sum", 0, (), 5), ("print", 0))
                self.assert_run(body, (7, 0), how, (7, 0), (7,), 3)
                if last[0] == "while":
                    continue
                for outer in (
                    lambda row: ("if", 0, (row, ("print", 1)), ()),
                    lambda row: ("if", 1, (), (row, ("print", 1))),
                    lambda row: ("times", 2, (row, ("print", 1))),
                    lambda row: ("while", 0, (row, ("print", 1))),
                ):
                    body = (outer(around((("print", 0), last, ("print", 1)))), ("print", 0))
                    self.assert_run(body, (7, 0), how, (7, 0), (7,), 4)

    def test_halting_in_a_later_turn(self):
        body = (("times", 3, (("print", 0), ("split", 1, 0), down(0))), ("print", 1))
        self.assert_run(body, (1, 5), "breaks", (0, 9), (1, 0), 6)
        body = (("while", 0, (down(0), ("print", 0), ("if", 0, (), (STOP,)))), ("print", 1))
        self.assert_run(body, (3, 5), "stops", (0, 5), (2, 1, 0), 11)

    def test_a_while_that_never_ends(self):
        self.assert_run((("while", 0, ()),), (1,), "goes on", (1,), (), 1)
        self.assert_run((("while", 0, ()),), (0,), "ends", (0,), (), 1)
        self.assert_run((("while", 0, (("print", 0),)), ("print", 1)), (3, 4), "goes on", (3, 4), (3,) * 60, 61)

    def test_sixty_rounds_and_a_sixty_first(self):
        nine = (("sum", 0, (), 9), rounds_of(0))
        fifty_four = (("times", 3, nine), ("times", 3, nine))
        last = (("sum", 0, (1,), 0), rounds_of(0), ("print", 1))
        self.assert_run(fifty_four + last, (0, 5), "ends", (0, 5), (5,), 2 + 6 * 11 + 2 + 5 + 1)
        self.assert_run(fifty_four + last, (0, 6), "ends", (0, 6), (6,), 2 + 6 * 11 + 2 + 6 + 1)
        self.assert_run(fifty_four + last, (0, 7), "goes on", (1, 7), (), 2 + 6 * 11 + 2 + 6)
        self.assert_run(fifty_four + last, (0, 9), "goes on", (3, 9), (), 2 + 6 * 11 + 2 + 6)

    def test_a_while_behind_sixty_rounds(self):
        loop = ("while", 0, (("sum", 1, (), 9), rounds_of(1), down(0)))
        behind = (("while", 2, (STOP,)), ("print", 2))
        self.assert_run((loop,) + behind, (6, 0, 0), "ends", (0, 0, 0), (0,), 1 + 6 * 12 + 2)
        self.assert_run((loop,) + behind, (6, 0, 4), "goes on", (0, 0, 4), (), 1 + 6 * 12 + 1)
        self.assert_run((loop,) + behind, (5, 0, 4), "stops", (0, 0, 4), (), 1 + 5 * 12 + 2)

    def test_rounds_of_whiles_within_one_another(self):
        loop = ("while", 0, (("sum", 1, (), 9), rounds_of(1), down(0)))
        self.assert_run((loop,), (6, 0), "ends", (0, 0), (), 1 + 6 * 12)
        self.assert_run((loop,), (7, 0), "goes on", (1, 0), (), 1 + 6 * 12)
        self.assert_run((rounds_of(1), loop), (6, 1), "goes on", (1, 1), (), 2 + 1 + 5 * 12 + 2 + 8)
        self.assert_run((rounds_of(1), loop), (5, 9), "ends", (0, 0), (), 1 + 9 + 1 + 5 * 12)

    def test_turns_of_a_times_are_no_rounds(self):
        body = (("times", 3, (("times", 3, (("sum", 0, (0,), 1),)),)),) * 7
        self.assert_run(body, (0,), "ends", (3,), (), 7 * 13)

    def test_steps(self):
        self.assert_run((("times", 2, (("if", 0, (), ()),)),), (0,), "ends", (0,), (), 3)
        self.assert_run((("while", 0, (("if", 1, (), (down(0),)),)),), (2, 0), "ends", (0, 0), (), 5)
        self.assert_run((("times", 0, (STOP,)), ("while", 0, (STOP,))), (0,), "ends", (0,), (), 2)

    def test_six_names(self):
        program = (("open", "secret") * 3, (("sum", 5, (4, 3), 2), ("print", 5), ("keep", "open", 4, 5)))
        self.assertEqual(
            run(program, (1, 2, 3, 4, 5, 6)),
            ("ends", (1, 2, 3, 4, 5, 1), (table(at5=1), EMPTY), (1,), 3),
        )

    def test_a_run_leaves_nothing_behind(self):
        program = (("open",), (("fetch", "open", 0, 0), ("print", 0), ("sum", 0, (), 1), ("keep", "open", 0, 0)))
        first = run(program, (1,))
        self.assertEqual(run(program, (1,)), first)
        self.assertEqual(first, ("ends", (1,), (table(at1=1), EMPTY), (0,), 4))

    def test_many_programs_by_a_second_reading(self):
        seen = {}
        for program, start in some_programs(4000, 1):
            self.assertTrue(is_program(program))
            found = run(program, start)
            self.assertEqual(found, expected_run(program, start), (program, start))
            seen[found[0]] = seen.get(found[0], 0) + 1
        self.assertTrue(all(seen.get(how, 0) > 100 for how in ("ends", "stops", "breaks", "goes on")), seen)


class Starts(unittest.TestCase):
    def test_right_starts(self):
        for number in range(10):
            self.assertEqual(run((("open", "secret"), ()), (number, 9 - number))[1], (number, 9 - number))
        self.assertEqual(run((("open",) * 6, ()), (0, 9, 0, 9, 0, 9))[1], (0, 9, 0, 9, 0, 9))

    def test_wrong_starts(self):
        wrong = ALWAYS_WRONG + [
            (), (0,), (0, 0, 0), (0,) * 6, (10, 0), (0, 10), (-1, 0), (0, -1), (10 ** 30, 0), (True, 0), (0, False),
            ("0", 0), (0, "0"), (None, 0), ((0,), 0), ([0], 0), ((0, 0),), [0, 0], {0: 0, 1: 0}, "00", 0,
        ]
        program = (("open", "secret"), ())
        for at, start in enumerate(wrong):
            for call in calls_with_start(program, start, (0, 0)):
                with self.subTest(at=at), self.assertRaises(BadStart):
                    call()

    def test_a_start_is_one_of_its_program(self):
        for many in range(1, 7):
            program = (("open",) * many, ())
            for length in range(9):
                if length == many:
                    self.assertEqual(run(program, (3,) * length)[1], (3,) * many)
                    continue
                for call in calls_with_start(program, (3,) * length, (3,) * many):
                    with self.assertRaises(BadStart):
                        call()


if __name__ == "__main__":
    unittest.main()
