"""The examples of the interface, as they stand there."""

import unittest

from flowborder.borders import breaker, fewest_drops, greatest_sound, is_sound, lots, lots_in
from flowborder.checker import fault, lets_by
from flowborder.compares import lets_by_all, parting, sees_all, strengths, unseen
from flowborder.designs import is_design
from flowborder.desks import Desk
from flowborder.errors import BadProgram, BadStart, InvalidText, NotMade, NotNow
from flowborder.looks import alike, leak
from flowborder.programs import is_program
from flowborder.runs import run
from flowborder.texts import read_program, write_program


class Examples(unittest.TestCase):
    def test_programs(self):
        self.assertEqual(
            [is_program((("open",), (("print", 0),))), is_program((("open",), (("print", 1),)))],
            [True, False],
        )

    def test_designs(self):
        self.assertEqual([is_design(("ifs", "tells")), is_design(("tells", "ifs"))], [True, False])

    def test_checker(self):
        program = (("open", "secret"), (("if", 1, (("sum", 1, (1,), 1),), (("stop",),)), ("print", 0)))
        self.assertEqual(
            [fault((), program), fault(("ifs",), program), lets_by(("ifs", "stops"), program)],
            [(0,), (0, 1, 0), True],
        )
        with self.assertRaises(BadProgram) as caught:
            fault((), (("open",), (("print", 1),)))
        self.assertEqual(caught.exception.part, 1)

    def test_runs(self):
        program = (("open", "secret"), (("if", 1, (("sum", 1, (1,), 1),), (("stop",),)), ("print", 0)))
        self.assertEqual(
            [
                run(program, (7, 2))[:2],
                run(program, (7, 2))[3:],
                run(program, (7, 0))[0],
                run((("open",), (("while", 0, ()),)), (1,))[0],
            ],
            [("ends", (7, 3)), ((7,), 3), "stops", "goes on"],
        )
        with self.assertRaises(BadStart):
            run(program, (10, 0))

    def test_looks(self):
        program = (("open", "secret"), (("if", 1, (("sum", 1, (1,), 1),), (("stop",),)), ("print", 0)))
        self.assertEqual(
            [
                alike(("ifs", "stops"), program, (7, 0), (7, 2)),
                alike(("prints seen",), program, (7, 0), (7, 2)),
                leak(("ends seen",), program, (7, 0)),
            ],
            [True, False, (7, 1)],
        )
        with self.assertRaises(NotMade):
            alike((), program, (7, 0), (6, 0))

    def test_borders(self):
        self.assertEqual(
            [
                is_sound(("ifs", "whiles")),
                lots_in(("ifs", "stops", "under")),
                breaker(("prints seen", "tells")),
                fewest_drops(("ifs", "stops", "under")),
                len(greatest_sound(())),
            ],
            [
                True,
                (("ifs", "stops"), ("ifs", "under")),
                ((("open", "secret"), (("print", 1),)), (0, 0), (0, 1)),
                ("ifs",),
                8,
            ],
        )
        self.assertEqual(lots()[6], ("marks",))
        with self.assertRaises(NotMade):
            greatest_sound(("marks",))

    def test_compares(self):
        self.assertEqual(
            [
                strengths(("ends seen", "prints", "tells")),
                lets_by_all(("ifs",), ("ifs", "stops")),
                parting(("whiles",), ("under", "whiles")),
                sees_all(("ends seen",), ()),
                unseen((), ("prints seen",)),
            ],
            [
                ("tells",),
                False,
                (("open", "secret"), (("while", 1, (("sum", 0, (), 1),)),)),
                True,
                ((("open", "secret"), (("print", 1),)), (0, 0), (0, 1)),
            ],
        )

    def test_texts(self):
        self.assertEqual(
            [
                write_program((("open", "secret"), (("sum", 0, (), 1), ("while", 1, (("sum", 1, (0, 1), 2),))))),
                read_program("secret\nif 0\nelse\nstop\nend"),
            ],
            [
                "open secret\nsum 0 - 1\nwhile 1\nsum 1 0.1 2\nend",
                (("secret",), (("if", 0, (), (("stop",),)),)),
            ],
        )
        with self.assertRaises(InvalidText) as caught:
            read_program("open\nprint 1")
        self.assertEqual(caught.exception.line, 2)

    def test_desks(self):
        desk = Desk(("prints seen",), (("open", "secret"), (("print", 1),)))
        self.assertEqual(
            [
                desk.run("fault"),
                desk.run("permit tells"),
                desk.run("run 0.5"),
                desk.run("leak 0.0"),
                desk.run("sound"),
                desk.undo(),
                desk.design,
            ],
            ["0", None, "ends 5", "0.1", "no", None, ("prints seen",)],
        )
        with self.assertRaises(NotNow):
            desk.run("forbid tells")


if __name__ == "__main__":
    unittest.main()
