"""The examples of the interface, as they stand there."""

import unittest

from flowborder.checker import fault, lets_by
from flowborder.designs import is_design
from flowborder.errors import BadProgram, BadStart, NotMade
from flowborder.looks import alike, leak
from flowborder.programs import is_program
from flowborder.runs import run


class Examples(unittest.TestCase):
    def test_programs(self):
        self.assertEqual(
            [is_program((("open",), (("print", 0),))), is_program((("open",), (("print", 1),)))],
            [True, False],
        )

    def test_designs(self):
        self.assertEqual([is_design(("ifs", "tells")), is_design(("tells", "ifs"))], [True, False])

    def test_checker(self):
        program = (("open", "secret"), (("if", 1, (("sum", 1, (1,), 1),), (("stop",),)), ("print", 0)))
        self.assertEqual(
            [fault((), program), fault(("ifs",), program), lets_by(("ifs", "stops"), program)],
            [(0,), (0, 1, 0), True],
        )
        with self.assertRaises(BadProgram) as caught:
            fault((), (("open",), (("print", 1),)))
        self.assertEqual(caught.exception.part, 1)

    def test_runs(self):
        program = (("open", "secret"), (("if", 1, (("sum", 1, (1,), 1),), (("stop",),)), ("print", 0)))
        self.assertEqual(
            [
                run(program, (7, 2))[:2],
                run(program, (7, 2))[3:],
                run(program, (7, 0))[0],
                run((("open",), (("while", 0, ()),)), (1,))[0],
            ],
            [("ends", (7, 3)), ((7,), 3), "stops", "goes on"],
        )
        with self.assertRaises(BadStart):
            run(program, (10, 0))

    def test_looks(self):
        program = (("open", "secret"), (("if", 1, (("sum", 1, (1,), 1),), (("stop",),)), ("print", 0)))
        self.assertEqual(
            [
                alike(("ifs", "stops"), program, (7, 0), (7, 2)),
                alike(("prints seen",), program, (7, 0), (7, 2)),
                leak(("ends seen",), program, (7, 0)),
            ],
            [True, False, (7, 1)],
        )
        with self.assertRaises(NotMade):
            alike((), program, (7, 0), (6, 0))


if __name__ == "__main__":
    unittest.main()
