"""Desks (point 14)."""

import unittest
from random import Random

from flowborder.borders import is_sound
from flowborder.checker import fault
from flowborder.desks import Desk
from flowborder.errors import BadDesign, BadProgram, FlowError, InvalidText, NothingToUndo, NotMade, NotNow, NotText
from flowborder.looks import leak
from flowborder.runs import run

from tests.helpers import ALWAYS_WRONG, DESIGNS, LOTS, PAIR, SEEN, STRENGTHS
from tests.oracle import some_programs

STOP = ("stop",)
WORDS = sorted(STRENGTHS + SEEN)
TELLS = (PAIR, (("print", 1),))
THREE_SECRETS = (("open", "secret", "secret", "secret"), ())

# Lines that no desk with two names takes.
OTHER_LINES = [
    "", " ", "\n", "faults", "Fault", "FAULT", " fault", "fault ", "fault\n", "fault 0", "fault 0.0",
    "fault fault", "sound ", " sound", "sounds", "Sound", "sound 0.0", "sound\n", "yes", "no", "none", "undo",
    "design", "help", "run", "run ", "run  0.0", "run 0.0 ", " run 0.0", "run 0", "run 0.0.0", "run 0 0",
    "run 10.0", "run 0.10", "run 00.0", "run 0.00", "run 01.0", "run -1.0", "run a.0", "run 0.", "run .0",
    "run .", "run 0..0", "run 0,0", "run0.0", "run\t0.0", "run 0.0\n", "Run 0.0", "run (0, 0)", "run -",
    "run none", "run \u0660.0", "run 0.\u00b2", "run 0.0 0.0", "run +0.0", "leak", "leak ", "leak  0.0",
    "leak 0.0 ", " leak 0.0", "leak 0", "leak 0.0.0", "leak 0 0", "leak 10.0", "leak 0.10", "leak 00.0",
    "leak a.0", "leak 0.", "leak .", "leak 0,0", "leak0.0", "Leak 0.0", "leak 0.0\n", "leak none", "leak -",
    "permit", "permit ", "permit  ifs", "permit ifs ", " permit ifs", "permit if", "permit ifs whiles",
    "permit Ifs", "permit seen", "permit ends", "permit ends  seen", "permit steps", "permit 0.0",
    "permit\tifs", "permitifs", "permit ends_seen", "Permit ifs", "permit ifs\n", "permit ifs,whiles",
    "permit prints seen ", "permit \"ifs\"", "forbid", "forbid ", "forbid  ifs", "forbid ifs ", " forbid ifs",
    "forbid if", "forbid ifs whiles", "forbid Ifs", "forbid seen", "forbid steps", "forbid 0.0", "forbidifs",
    "Forbid ifs", "forbid ifs\n", "forbid", "forbid none", "allow ifs", "ifs", "ends seen", "prints seen",
    "permit forbid ifs", "run fault", "leak run 0.0", "0.0", "1",
]

NO_STRINGS = [
    None, 0, 1, True, False, (), ("fault",), ["fault"], [], {}, {"fault": 1}, FlowError("fault"), Desk((), (PAIR, ())),
]


class Answers(unittest.TestCase):
    def test_fault(self):
        program = (PAIR, (STOP, ("if", 1, (("sum", 1, (1,), 1),), (STOP, ("while", 0, (STOP,)))), ("print", 0)))
        self.assertEqual(Desk((), program).run("fault"), "1")
        self.assertEqual(Desk(("ifs",), program).run("fault"), "1.1.0")
        self.assertEqual(Desk(("ifs", "stops"), program).run("fault"), "1.1.1")
        self.assertEqual(Desk(("ifs", "whiles"), program).run("fault"), "1.1.0")
        self.assertEqual(Desk(("ifs", "stops", "whiles"), program).run("fault"), "none")
        self.assertEqual(Desk((), (PAIR, ())).run("fault"), "none")
        deep = (PAIR, (STOP, STOP, ("times", 3, (STOP, ("if", 0, (), (STOP, STOP, ("print", 1)))))))
        self.assertEqual(Desk((), deep).run("fault"), "2.1.1.2")

    def test_sound(self):
        for design in DESIGNS[::7]:
            self.assertEqual(Desk(design, (PAIR, ())).run("sound"), "yes" if is_sound(design) else "no")
        self.assertEqual(Desk((), TELLS).run("sound"), "yes")
        self.assertEqual(Desk(("marks",), TELLS).run("sound"), "no")

    def test_run(self):
        desk = Desk((), (PAIR, (("print", 0), ("while", 0, (("print", 1),)), ("print", 1), ("split", 0, 1), STOP)))
        self.assertEqual(desk.run("run 0.0"), "breaks 0 0")
        self.assertEqual(desk.run("run 0.7"), "stops 0 7")
        self.assertEqual(desk.run("run 9.3"), "goes on 9" + " 3" * 60)
        self.assertEqual(Desk((), (PAIR, ())).run("run 0.0"), "ends")
        self.assertEqual(Desk((), (PAIR, (STOP,))).run("run 9.9"), "stops")
        self.assertEqual(Desk((), (("secret",), (("print", 0),))).run("run 4"), "ends 4")
        self.assertEqual(Desk((), (PAIR * 3, (("print", 5), ("print", 0)))).run("run 1.2.3.4.5.6"), "ends 6 1")

    def test_leak(self):
        self.assertEqual(Desk(("prints seen",), TELLS).run("leak 7.0"), "7.1")
        self.assertEqual(Desk(("prints seen",), TELLS).run("leak 7.5"), "7.0")
        self.assertEqual(Desk((), TELLS).run("leak 7.5"), "none")
        self.assertEqual(Desk((), (("open",), (("print", 0),))).run("leak 7"), "none")
        two = (("secret", "open", "secret"), (("sum", 1, (0, 2), 0),))
        self.assertEqual(Desk((), two).run("leak 0.5.0"), "0.5.1")
        self.assertEqual(Desk((), two).run("leak 0.5.1"), "0.5.0")

    def test_leak_of_three_secret_names(self):
        desk = Desk((), THREE_SECRETS)
        with self.assertRaises(NotNow):
            desk.run("leak 0.0.0.0")
        with self.assertRaises(NotNow):
            Desk(SEEN, (("secret",) * 6, ())).run("leak 1.2.3.4.5.6")
        self.assertEqual(desk.run("run 0.0.0.0"), "ends")
        for line in ("leak 0.0.0", "leak 0.0.0.10", "leak 0.0.0.0.0", "leak", "leak ", "leak 0.0.0.0 "):
            with self.assertRaises(InvalidText) as caught:
                desk.run(line)
            self.assertEqual(caught.exception.line, 1)

    def test_many_programs(self):
        chance = Random(31)
        for program, start in some_programs(300, 30):
            design = chance.choice(DESIGNS)
            desk = Desk(design, program)
            text = ".".join(str(number) for number in start)
            place = fault(design, program)
            self.assertEqual(desk.run("fault"), "none" if place is None else ".".join(map(str, place)))
            seen = run(program, start)
            self.assertEqual(desk.run("run " + text), seen[0] + "".join(f" {number}" for number in seen[3]))
            try:
                other = leak(design, program, start)
            except NotMade:
                with self.assertRaises(NotNow):
                    desk.run("leak " + text)
            else:
                self.assertEqual(desk.run("leak " + text), "none" if other is None else ".".join(map(str, other)))
            self.assertEqual(desk.design, design)

    def test_the_answers_follow_the_design(self):
        desk = Desk((), TELLS)
        self.assertEqual([desk.run("fault"), desk.run("sound"), desk.run("leak 0.0")], ["0", "yes", "none"])
        desk.run("permit tells")
        self.assertEqual([desk.run("fault"), desk.run("sound"), desk.run("leak 0.0")], ["none", "yes", "none"])
        desk.run("permit prints seen")
        self.assertEqual([desk.run("fault"), desk.run("sound"), desk.run("leak 0.0")], ["none", "no", "0.1"])
        desk.run("forbid tells")
        self.assertEqual([desk.run("fault"), desk.run("sound"), desk.run("leak 0.0")], ["0", "yes", "0.1"])
        desk.undo()
        self.assertEqual([desk.run("fault"), desk.run("sound"), desk.run("leak 0.0")], ["none", "no", "0.1"])


class Changes(unittest.TestCase):
    def test_each_word(self):
        for design in ((), tuple(WORDS), ("ifs", "prints", "tells"), SEEN, tuple(WORDS[::2]), tuple(WORDS[1::2])):
            for word in WORDS:
                desk = Desk(design, TELLS)
                orders = ["forbid", "permit"] if word in design else ["permit", "forbid"]
                with_word = tuple(sorted(set(design) | {word}))
                without = tuple(other for other in design if other != word)
                for order in orders * 2:
                    self.assertIsNone(desk.run(f"{order} {word}"))
                    self.assertEqual(desk.design, with_word if order == "permit" else without)
                    with self.assertRaises(NotNow):
                        desk.run(f"{order} {word}")
                    self.assertEqual(desk.design, with_word if order == "permit" else without)
                for _ in range(4):
                    self.assertIsNone(desk.undo())
                self.assertEqual(desk.design, design)
                with self.assertRaises(NothingToUndo):
                    desk.undo()

    def test_prints_and_prints_seen_are_two(self):
        desk = Desk(("prints",), TELLS)
        with self.assertRaises(NotNow):
            desk.run("forbid prints seen")
        self.assertIsNone(desk.run("permit prints seen"))
        self.assertIsNone(desk.run("forbid prints"))
        self.assertEqual(desk.design, ("prints seen",))

    def test_undo_over_several_changes(self):
        desk = Desk(("ifs",), TELLS)
        kept = [desk.design]
        for line in ("permit whiles", "permit marks", "forbid ifs", "permit ends seen", "permit ifs", "forbid whiles"):
            self.assertIsNone(desk.run(line))
            kept.append(desk.design)
        self.assertEqual(desk.design, ("ends seen", "ifs", "marks"))
        for design in reversed(kept[:-1]):
            self.assertIsNone(desk.undo())
            self.assertEqual(desk.design, design)
        self.assertEqual(desk.design, ("ifs",))
        with self.assertRaises(NothingToUndo):
            desk.undo()
        self.assertEqual(desk.design, ("ifs",))

    def test_nothing_to_undo(self):
        desk = Desk(("ifs",), TELLS)
        for _ in range(3):
            with self.assertRaises(NothingToUndo):
                desk.undo()
            self.assertEqual(desk.design, ("ifs",))
        desk.run("permit tells")
        desk.undo()
        with self.assertRaises(NothingToUndo):
            desk.undo()
        self.assertIsNone(desk.run("permit tells"))
        self.assertEqual(desk.design, ("ifs", "tells"))

    def test_undo_behind_a_refused_line(self):
        desk = Desk((), THREE_SECRETS)
        desk.run("permit tells")
        desk.run("permit ifs")
        for line, error in (
            ("permit ifs", NotNow), ("forbid marks", NotNow), ("leak 0.0.0.0", NotNow), ("leak 0", InvalidText),
            ("halt", InvalidText), (None, NotText),
        ):
            with self.assertRaises(error):
                desk.run(line)
            self.assertEqual(desk.design, ("ifs", "tells"))
        self.assertIsNone(desk.undo())
        self.assertEqual(desk.design, ("tells",))
        with self.assertRaises(NotNow):
            desk.run("forbid ifs")
        self.assertIsNone(desk.undo())
        self.assertEqual(desk.design, ())
        with self.assertRaises(NotNow):
            desk.run("forbid tells")
        with self.assertRaises(NothingToUndo):
            desk.undo()

    def test_an_undone_change_is_gone(self):
        desk = Desk((), TELLS)
        desk.run("permit tells")
        desk.undo()
        desk.run("permit ifs")
        self.assertEqual(desk.design, ("ifs",))
        desk.undo()
        self.assertEqual(desk.design, ())
        with self.assertRaises(NothingToUndo):
            desk.undo()

    def test_questions_change_nothing(self):
        desk = Desk((), TELLS)
        desk.run("permit prints seen")
        desk.run("permit tells")
        answers = [desk.run(line) for line in ("fault", "sound", "run 1.2", "leak 1.2")]
        for _ in range(3):
            self.assertEqual([desk.run(line) for line in ("fault", "sound", "run 1.2", "leak 1.2")], answers)
            self.assertEqual(desk.design, ("prints seen", "tells"))
        desk.undo()
        self.assertEqual(desk.design, ("prints seen",))

    def test_many_lines(self):
        chance = Random(33)
        for _ in range(40):
            design = chance.choice(DESIGNS)
            desk = Desk(design, TELLS)
            kept = [design]
            for _ in range(60):
                order, word = chance.choice(("permit", "forbid", "undo", "fault")), chance.choice(WORDS)
                if order == "undo" and len(kept) == 1:
                    self.assertRaises(NothingToUndo, desk.undo)
                elif order == "undo":
                    desk.undo()
                    kept.pop()
                elif order == "fault":
                    desk.run("fault")
                elif (word in kept[-1]) == (order == "permit"):
                    self.assertRaises(NotNow, desk.run, f"{order} {word}")
                else:
                    self.assertIsNone(desk.run(f"{order} {word}"))
                    kept.append(tuple(sorted(set(kept[-1]) ^ {word})))
                self.assertEqual(desk.design, kept[-1])

    def test_two_desks_are_apart(self):
        design, program = ("ifs",), TELLS
        one, other = Desk(design, program), Desk(design, program)
        one.run("permit tells")
        self.assertEqual((one.design, other.design, design), (("ifs", "tells"), ("ifs",), ("ifs",)))
        with self.assertRaises(NothingToUndo):
            other.undo()
        self.assertEqual(other.run("fault"), "0")


class Wrong(unittest.TestCase):
    def test_other_lines(self):
        for design in ((), tuple(WORDS)):
            desk = Desk(design, TELLS)
            for line in OTHER_LINES:
                with self.assertRaises(InvalidText, msg=repr(line)) as caught:
                    desk.run(line)
                self.assertEqual(caught.exception.line, 1)
                self.assertEqual(desk.design, design)
            with self.assertRaises(NothingToUndo):
                desk.undo()

    def test_a_start_of_another_program(self):
        for many in range(1, 7):
            desk = Desk((), (("open",) * many, ()))
            for length in range(1, 9):
                start = ".".join("3" * length)
                if length == many:
                    self.assertEqual((desk.run("run " + start), desk.run("leak " + start)), ("ends", "none"))
                else:
                    for order in ("run ", "leak "):
                        with self.assertRaises(InvalidText):
                            desk.run(order + start)

    def test_no_string(self):
        desk = Desk((), TELLS)
        for value in NO_STRINGS:
            with self.assertRaises(NotText):
                desk.run(value)
        self.assertEqual(desk.design, ())

    def test_bad_designs_and_programs(self):
        for value in [("tells", "ifs"), ("ifs", "ifs"), Desk((), TELLS)] + ALWAYS_WRONG:
            with self.assertRaises(BadDesign):
                Desk(value, TELLS)
            with self.assertRaises(BadDesign):
                Desk(value, None)
            with self.assertRaises(BadProgram):
                Desk((), value)
        for value, part in ((None, None), (((), ()), 0), ((PAIR, (("print", 2),)), 1)):
            with self.assertRaises(BadProgram) as caught:
                Desk(("ifs",), value)
            self.assertIs(caught.exception.part, part)

    def test_any_design_and_program_is_taken(self):
        for design in DESIGNS[::11]:
            for _, body in LOTS:
                self.assertEqual(Desk(design, (PAIR, body)).design, design)


if __name__ == "__main__":
    unittest.main()
