"""What holds for all functions (point 1): the order of the errors, and arguments that stay as they are."""

import unittest
from copy import deepcopy

from flowborder.borders import breaker, fewest_drops, greatest_sound, is_sound, lots, lots_in
from flowborder.checker import fault, lets_by
from flowborder.compares import lets_by_all, parting, sees_all, strengths, unseen
from flowborder.designs import is_design
from flowborder.desks import Desk
from flowborder.errors import BadDesign, BadProgram, BadStart, FlowError, NotMade, NotText
from flowborder.looks import alike, leak
from flowborder.programs import is_program
from flowborder.runs import run
from flowborder.texts import read_program, write_program

DESIGN = ("ends seen", "ifs")
PROGRAM = (("open", "secret"), (("if", 1, (("stop",),), ()), ("keep", "open", 0, 1), ("print", 0)))
THREE_SECRETS = (("open", "secret", "secret", "secret"), ())
START = (7, 2)

WRONG_DESIGNS = [("tells", "ifs"), ["ifs"], None, 0, {}, True]
WRONG_PROGRAMS = [
    (None, None), (0, ((), ())), (1, (("open", "secret"), [])), (None, []), (1, (("open",), (("stop", 0),))),
]
WRONG_STARTS = [(7, 10), (7,), [7, 2], None, 0, (True, 0), {}]


class OrderOfErrors(unittest.TestCase):
    def assert_error(self, error, function, *arguments):
        with self.assertRaises(FlowError) as caught:
            function(*arguments)
        self.assertIs(type(caught.exception), error, (function.__name__, arguments))
        return caught.exception

    def test_a_wrong_design_goes_first(self):
        for design in WRONG_DESIGNS:
            for _, program in WRONG_PROGRAMS + [(None, PROGRAM), (None, THREE_SECRETS)]:
                self.assert_error(BadDesign, fault, design, program)
                self.assert_error(BadDesign, lets_by, design, program)
                self.assert_error(BadDesign, Desk, design, program)
                for start in WRONG_STARTS + [START, (0, 0, 0, 0)]:
                    self.assert_error(BadDesign, alike, design, program, start, start)
                    self.assert_error(BadDesign, alike, design, program, START, start)
                    self.assert_error(BadDesign, leak, design, program, start)

    def test_a_wrong_program_goes_before_the_starts(self):
        for part, program in WRONG_PROGRAMS:
            for start in WRONG_STARTS + [START]:
                for function, arguments in (
                    (run, (program, start)),
                    (alike, (DESIGN, program, start, START)),
                    (alike, (DESIGN, program, START, start)),
                    (alike, (DESIGN, program, start, start)),
                    (leak, (DESIGN, program, start)),
                ):
                    self.assertIs(self.assert_error(BadProgram, function, *arguments).part, part)

    def test_a_wrong_program_of_a_text_or_a_desk(self):
        for part, program in WRONG_PROGRAMS:
            self.assertIs(self.assert_error(BadProgram, write_program, program).part, part)
            self.assertIs(self.assert_error(BadProgram, Desk, DESIGN, program).part, part)

    def test_wrong_designs_of_one_argument_or_two(self):
        for design in WRONG_DESIGNS:
            for function in (lots_in, is_sound, breaker, greatest_sound, fewest_drops, strengths):
                self.assert_error(BadDesign, function, design)
            for function in (lets_by_all, parting, sees_all, unseen):
                for arguments in ((design, DESIGN), (DESIGN, design), (design, design)):
                    self.assert_error(BadDesign, function, *arguments)

    def test_a_program_as_a_design_and_the_other_way_round(self):
        self.assert_error(BadDesign, fault, PROGRAM, DESIGN)
        self.assert_error(BadDesign, leak, PROGRAM, DESIGN, START)
        self.assertEqual(self.assert_error(BadProgram, fault, (), ()).part, None)
        self.assertEqual(self.assert_error(BadProgram, run, DESIGN, START).part, 0)

    def test_a_wrong_start_goes_before_not_made(self):
        for start in WRONG_STARTS:
            self.assert_error(BadStart, run, PROGRAM, start)
            self.assert_error(BadStart, alike, DESIGN, PROGRAM, start, START)
            self.assert_error(BadStart, alike, DESIGN, PROGRAM, START, start)
            self.assert_error(BadStart, alike, DESIGN, PROGRAM, (6, 2), start)
            self.assert_error(BadStart, alike, DESIGN, PROGRAM, start, (6, 2))
            self.assert_error(BadStart, leak, DESIGN, PROGRAM, start)
            self.assert_error(BadStart, leak, DESIGN, THREE_SECRETS, start)

    def test_not_made_goes_last(self):
        self.assert_error(NotMade, alike, DESIGN, PROGRAM, (6, 2), (7, 2))
        self.assert_error(NotMade, leak, DESIGN, THREE_SECRETS, (0, 0, 0, 0))
        self.assert_error(NotMade, greatest_sound, ("marks",))
        self.assert_error(BadDesign, greatest_sound, ["marks"])
        self.assert_error(BadDesign, greatest_sound, ("straight", "marks"))

    def test_all_are_value_errors(self):
        for call in (
            lambda: fault(None, PROGRAM), lambda: fault((), None), lambda: run(PROGRAM, None),
            lambda: leak((), THREE_SECRETS, (0, 0, 0, 0)),
        ):
            with self.assertRaises(ValueError):
                call()


class ArgumentsStay(unittest.TestCase):
    def test_right_arguments(self):
        design, program, start, other = deepcopy((DESIGN, PROGRAM, START, (7, 0)))
        for _ in range(2):
            self.assertIs(is_design(design), True)
            self.assertIs(is_program(program), True)
            self.assertEqual(fault(design, program), (0, 0, 0))
            self.assertIs(lets_by(design, program), False)
            self.assertEqual(run(program, start)[0], "stops")
            self.assertEqual(run(program, other)[2][0], (0,) * 10)
            self.assertIs(alike(design, program, start, other), False)
            self.assertEqual(leak(design, program, start), (7, 0))
            self.assertEqual((is_sound(design), lots_in(design), breaker(design)), (True, (), None))
            self.assertEqual(len(greatest_sound(design)), 2)
            self.assertEqual((fewest_drops(design), strengths(design)), ((), ("ifs",)))
            self.assertEqual((lets_by_all(design, design), parting(design, design)), (True, None))
            self.assertEqual((sees_all(design, design), unseen(design, design)), (True, None))
            self.assertEqual(read_program(write_program(program)), program)
            desk = Desk(design, program)
            answers = [desk.run(line) for line in ("fault", "permit tells", "forbid ifs")]
            self.assertEqual(answers, ["0.0.0", None, None])
            self.assertEqual(desk.design, ("ends seen", "tells"))
        self.assertEqual((design, program, start, other), (DESIGN, PROGRAM, START, (7, 0)))

    def test_what_was_given_back_once(self):
        wanted = lots(), breaker(("marks",)), parting((), DESIGN), unseen((), DESIGN), greatest_sound(())
        for _ in range(3):
            found = lots(), breaker(("marks",)), parting((), DESIGN), unseen((), DESIGN), greatest_sound(())
            self.assertEqual(found, wanted)

    def test_wrong_arguments(self):
        values = [
            ["whiles", "ifs", "ifs"], {"ifs": ["tells"]}, [["open", "secret"], [["stop"]]],
            (["open", "secret"], [["print", 0]]), (("open",), [["print", 0]]), [7, 2], [[], {}], {0: [1]},
        ]
        kept = deepcopy(values)
        for value in values:
            self.assertIs(is_design(value), False)
            self.assertIs(is_program(value), False)
            for function, arguments in (
                (fault, (value, PROGRAM)), (fault, ((), value)), (lets_by, (value, value)), (run, (value, START)),
                (run, (PROGRAM, value)), (alike, ((), PROGRAM, value, value)), (alike, ((), value, START, START)),
                (leak, ((), PROGRAM, value)), (leak, (value, value, value)), (lots_in, (value,)), (breaker, (value,)),
                (greatest_sound, (value,)), (fewest_drops, (value,)), (strengths, (value,)), (parting, (value, value)),
                (lets_by_all, ((), value)), (sees_all, (value, ())), (unseen, ((), value)), (write_program, (value,)),
                (read_program, (value,)), (Desk, (value, PROGRAM)), (Desk, ((), value)),
                (Desk((), PROGRAM).run, (value,)),
            ):
                with self.assertRaises(FlowError):
                    function(*arguments)
        self.assertEqual(values, kept)

    def test_a_call_that_raises_changes_nothing(self):
        before = run(PROGRAM, START), fault((), PROGRAM), leak(DESIGN, PROGRAM, START)
        for _ in range(3):
            with self.assertRaises(NotMade):
                alike(DESIGN, PROGRAM, (6, 2), (7, 2))
            with self.assertRaises(BadStart):
                run(PROGRAM, (7, 10))
            with self.assertRaises(BadProgram):
                fault((), None)
            with self.assertRaises(NotText):
                read_program(None)
        self.assertEqual((run(PROGRAM, START), fault((), PROGRAM), leak(DESIGN, PROGRAM, START)), before)


if __name__ == "__main__":
    unittest.main()
