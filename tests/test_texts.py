"""Texts (point 13)."""

import unittest

from flowborder.desks import Desk
from flowborder.errors import BadProgram, FlowError, InvalidText, NotText
from flowborder.programs import is_program
from flowborder.texts import read_program, write_program

from tests.helpers import LOTS, PAIR
from tests.oracle import some_programs

STOP = ("stop",)
THREE = ("open", "secret", "open")

# Statements and their lines.
STATEMENTS = [
    (("sum", 0, (), 0), "sum 0 - 0"),
    (("sum", 2, (1,), 9), "sum 2 1 9"),
    (("sum", 1, (2, 0), 5), "sum 1 2.0 5"),
    (("sum", 1, (1, 1), 5), "sum 1 1.1 5"),
    (("if", 0, (), ()), "if 0\nelse\nend"),
    (("if", 1, (STOP,), ()), "if 1\nstop\nelse\nend"),
    (("if", 2, (), (STOP,)), "if 2\nelse\nstop\nend"),
    (("if", 2, (STOP, ("print", 2)), (("print", 1), STOP)), "if 2\nstop\nprint 2\nelse\nprint 1\nstop\nend"),
    (("times", 0, ()), "times 0\nend"),
    (("times", 3, (STOP, STOP)), "times 3\nstop\nstop\nend"),
    (("while", 0, ()), "while 0\nend"),
    (("while", 2, (("sum", 2, (2,), 9),)), "while 2\nsum 2 2 9\nend"),
    (("print", 0), "print 0"),
    (("print", 2), "print 2"),
    (STOP, "stop"),
    (("split", 0, 2), "split 0 2"),
    (("keep", "open", 0, 1), "keep open 0 1"),
    (("keep", "secret", 2, 0), "keep secret 2 0"),
    (("fetch", "open", 1, 2), "fetch open 1 2"),
    (("fetch", "secret", 0, 1), "fetch secret 0 1"),
    (("while", 0, (("times", 2, ()),)), "while 0\ntimes 2\nend\nend"),
    (("times", 1, (("while", 1, (STOP,)), ("times", 0, ()))), "times 1\nwhile 1\nstop\nend\ntimes 0\nend\nend"),
    (
        ("if", 0, (("if", 1, (), (STOP,)),), (("while", 2, ()), ("print", 0))),
        "if 0\nif 1\nelse\nstop\nend\nelse\nwhile 2\nend\nprint 0\nend",
    ),
    (
        ("if", 0, (("times", 3, ()),) * 4, (STOP,) * 4),
        "if 0" + "\ntimes 3\nend" * 4 + "\nelse" + "\nstop" * 4 + "\nend",
    ),
]

# Lines that cannot stand as a statement of a program with three names, wherever they stand.
WRONG_LINES = [
    "", " ", "-", "0", ".", "Stop", "STOP", "halt", "stops", "sto", "open", "secret", "open secret", "for 0",
    "elif", "ends", " stop", "stop ", "stop 0", "stop stop", "stop\t", "stop\r", "\tstop", "stop;", "# stop",
    "print", "print ", "print  0", "print 0 ", " print 0", "print 0 0", "print 3", "print 9", "print 10",
    "print 00", "print 01", "print -0", "print +0", "print -1", "print a", "print -", "print 0.", "print 0.1",
    "print\t0", "print0", "print \u0660", "print \u00b2", "print 1_0", "print 0x0", "print None", "print True",
    "print open", "print 0\r", "if", "if ", "if 3", "if 0 0", "if  0", "if 00", "if -", "if 0 else", "if 0 ",
    "IF 0", "times", "times ", "times 4", "times 9", "times 10", "times 03", "times 0 0", "times  1", "times -",
    "times 1.1", "while", "while ", "while 3", "while 0 0", "while  0", "while 02", "while -1", "while 0 ",
    "split", "split 0", "split 0 0 0", "split 0 3", "split 3 0", "split 0  0", "split 0 00", "split 0.0",
    "split - 0", "keep", "keep open", "keep open 0", "keep open 0 0 0", "keep open 3 0", "keep open 0 3",
    "keep shut 0 0", "keep 0 0 0", "keep  open 0 0", "keep open  0 0", "keep open 0  0", "keep open 0 0 ",
    "keep Open 0 0", "keep open 0 01", "keep 0 0", "keep - 0 0", "keep open 0.0", "keep open secret 0", "fetch",
    "fetch secret", "fetch secret 0", "fetch secret 0 0 0", "fetch secret 3 0", "fetch secret 0 3",
    "fetch shut 0 0", "fetch secrets 0 0", "fetch 0 0", "fetch secret 0  0", "fetch secret 00 0", "sum",
    "sum 0", "sum 0 -", "sum 0 0", "sum 0 - 0 0", "sum 3 - 0", "sum 0 3 0", "sum 0 0.3 0", "sum 0 3.0 0",
    "sum 0 0.0.0 0", "sum 0 . 0", "sum 0 0. 0", "sum 0 .0 0", "sum 0 0..0 0", "sum 0 -.0 0", "sum 0 0.- 0",
    "sum 0 -- 0", "sum 0 - -", "sum 0 - 10", "sum 0 - 00", "sum 0 - 09", "sum 0 - -1", "sum - - 0",
    "sum 00 - 0", "sum 0 00 0", "sum 0 0.01 0", "sum 0  0", "sum 0  - 0", "sum  0 - 0", "sum 0 -  0",
    "sum 0 - 0 ", "sum 0 0,0 0", "sum 0 0 0 0", "sum 0 () 0", "sum 0 0.0 1.1", "sum 0.1 0 0",
]

NO_STRINGS = [
    None, 0, 1, True, False, (), ("open",), ["open"], [], {}, {"open": "stop"}, (("open",), ()), FlowError("open"),
    InvalidText(1), Desk((), (("open",), ())),
]


def text_of(*lines):
    return "\n".join(("open secret open",) + lines)


class Written(unittest.TestCase):
    def test_each_statement(self):
        for statement, lines in STATEMENTS:
            self.assertEqual(write_program((THREE, (statement,))), text_of(lines))

    def test_several_statements(self):
        chosen = STATEMENTS[:8]
        program = (THREE, tuple(statement for statement, _ in chosen))
        self.assertEqual(write_program(program), text_of(*[lines for _, lines in chosen]))

    def test_the_sorts(self):
        self.assertEqual(write_program((("open",), ())), "open")
        self.assertEqual(write_program((("secret",), ())), "secret")
        self.assertEqual(write_program((("secret", "open") * 3, ())), "secret open secret open secret open")
        self.assertEqual(write_program((("open",) * 6, (("print", 5),))), "open open open open open open\nprint 5")

    def test_bad_programs(self):
        for value, part in (
            (None, None), ([], None), ("open", None), ((), None), (((), ()), 0), ((["open"], ()), 0), ((PAIR, []), 1),
            ((("open",), (("print", 1),)), 1), ((("open",), (STOP,) * 9), 1), ((PAIR, (("times", 4, ()),)), 1),
            ((PAIR, (("sum", 0, (), True),)), 1),
        ):
            with self.assertRaises(BadProgram) as caught:
                write_program(value)
            self.assertIs(caught.exception.part, part)


class Read(unittest.TestCase):
    def assert_line(self, text, line):
        with self.assertRaises(InvalidText, msg=repr(text)) as caught:
            read_program(text)
        self.assertEqual(caught.exception.line, line, repr(text))

    def assert_read(self, text, program):
        self.assertEqual(read_program(text), program)
        self.assertIs(is_program(read_program(text)), True)

    def test_each_statement(self):
        for statement, lines in STATEMENTS:
            self.assert_read(text_of(lines), (THREE, (statement,)))
            several = (STOP, statement, statement, ("print", 0))
            self.assert_read(text_of("stop", lines, lines, "print 0"), (THREE, several))

    def test_as_they_were_written(self):
        programs = [program for program, _ in some_programs(1500, 21)] + [(PAIR, body) for _, body in LOTS]
        for program in programs:
            text = write_program(program)
            self.assert_read(text, program)
            self.assertEqual(write_program(read_program(text)), text)

    def test_the_empty_body(self):
        self.assert_read("open", (("open",), ()))
        self.assert_read("secret open", (("secret", "open"), ()))
        self.assert_read("open secret open secret open secret", (PAIR * 3, ()))

    def test_the_line_of_the_sorts(self):
        for sorts in (
            "", " ", "open ", " open", "open  secret", "Open", "opens", "open,secret", "open.secret", "shut",
            "open shut", "open\tsecret", "open\r", "-", "0", "stop", " ".join(PAIR * 4),
            "open open open open open open open",
        ):
            for rest in ("", "\n", "\nstop", "\nhalt", "\nopen\nstop"):
                self.assert_line(sorts + rest, 1)
        self.assert_line("\nopen", 1)

    def test_wrong_lines(self):
        for wrong in WRONG_LINES:
            self.assert_line(text_of(wrong), 2)
            self.assert_line(text_of(wrong, "halt"), 2)
            self.assert_line(text_of("stop", "print 1", wrong), 4)
            self.assert_line(text_of("if 0", wrong, "else", "end"), 3)
            self.assert_line(text_of("if 0", "stop", "else", wrong, "end"), 5)
            self.assert_line(text_of("times 2", "stop", wrong, "end"), 4)
            self.assert_line(text_of("while 0", "times 3", wrong, "end", "end"), 4)
            self.assert_line(text_of("while 0", "end", wrong), 4)

    def test_a_name_that_the_sorts_do_not_have(self):
        for many in range(1, 6):
            sorts = " ".join(["open"] * many)
            for line in ("print {}", "sum {} - 0", "sum 0 {} 0", "sum 0 0.{} 0", "split {} 0", "split 0 {}",
                         "keep open {} 0", "keep open 0 {}", "fetch secret {} 0", "fetch secret 0 {}"):
                self.assertEqual(len(read_program(f"{sorts}\n{line.format(many - 1)}")[1]), 1)
                self.assert_line(f"{sorts}\n{line.format(many)}", 2)
            for lines in ("if {}\nelse\nend", "while {}\nend"):
                self.assertEqual(len(read_program(f"{sorts}\n{lines.format(many - 1)}")[1]), 1)
                self.assert_line(f"{sorts}\n{lines.format(many)}", 2)

    def test_an_empty_line(self):
        self.assert_line("open\n", 2)
        self.assert_line("open\nstop\n", 3)
        self.assert_line("open\n\nstop", 2)
        self.assert_line("open\nif 0\n\nelse\nend", 3)
        self.assert_line("open\nif 0\nelse\nend\n", 5)

    def test_the_most_statements(self):
        for line in ("stop", "sum 0 - 1", "while 0\nend"):
            many = line.count("\n") + 1
            self.assertEqual(len(read_program(text_of(*[line] * 8))[1]), 8)
            self.assert_line(text_of(*[line] * 9), 2 + 8 * many)
            self.assert_line(text_of(*[line] * 9, "halt"), 2 + 8 * many)
            for head, tail in (("times 1", "end"), ("while 2", "end"), ("if 0", "else\nend"), ("if 0\nelse", "end")):
                first = 3 + head.count("\n")
                self.assertEqual(len(read_program(text_of(head, *[line] * 4, tail))[1]), 1)
                self.assert_line(text_of(head, *[line] * 5, tail), first + 4 * many)
                self.assert_line(text_of("stop", head, *[line] * 5), first + 4 * many + 1)
        full = ["if 0"] + ["stop"] * 4 + ["else"] + ["stop"] * 4 + ["end"]
        self.assertEqual(len(read_program(text_of(*full * 8))[1]), 8)
        self.assert_line(text_of(*full * 8, "stop"), 2 + 8 * len(full))

    def test_no_third_within_one_another(self):
        heads = {"if 0": ["else", "end"], "times 2": ["end"], "while 1": ["end"]}
        for one in heads:
            for two in heads:
                self.assertEqual(len(read_program(text_of(one, two, *heads[two], *heads[one]))[1]), 1)
                for three in heads:
                    self.assert_line(text_of(one, two, three, *heads[three], *heads[two], *heads[one]), 4)
                    self.assert_line(text_of(one, two, "stop", three), 5)
                    self.assert_line(text_of(one, two, *heads[two], two, three), 4 + len(heads[two]) + 1)
        self.assert_line(text_of("if 0", "else", "if 0", "else", "if 0", "else", "end", "end", "end"), 6)

    def test_an_else_where_none_may_stand(self):
        self.assert_line(text_of("else"), 2)
        self.assert_line(text_of("stop", "else", "end"), 3)
        self.assert_line(text_of("times 1", "else", "end"), 3)
        self.assert_line(text_of("while 1", "stop", "else", "end"), 4)
        self.assert_line(text_of("if 0", "else", "else", "end"), 4)
        self.assert_line(text_of("if 0", "else", "stop", "else", "end"), 5)
        self.assert_line(text_of("if 0", "else", "end", "else"), 5)
        self.assert_line(text_of("if 0", "while 1", "else", "end"), 4)
        for wrong in ("else ", " else", "else 0", "Else", "else else"):
            self.assert_line(text_of("if 0", wrong, "end"), 3)

    def test_an_end_where_none_may_stand(self):
        self.assert_line(text_of("end"), 2)
        self.assert_line(text_of("stop", "end"), 3)
        self.assert_line(text_of("if 0", "end"), 3)
        self.assert_line(text_of("if 0", "stop", "end"), 4)
        self.assert_line(text_of("if 0", "else", "end", "end"), 5)
        self.assert_line(text_of("times 1", "end", "end"), 4)
        self.assert_line(text_of("times 1", "while 0", "end", "end", "end"), 6)
        for wrong in ("end ", " end", "end 0", "End", "end end"):
            self.assert_line(text_of("while 0", wrong), 3)

    def test_an_end_that_is_lacking(self):
        self.assert_line("open\nif 0", 3)
        self.assert_line("open\nif 0\nelse", 4)
        self.assert_line("open\nwhile 0", 3)
        self.assert_line("open\ntimes 0\nstop", 4)
        self.assert_line("open\nif 0\nelse\nif 0\nelse\nend", 7)
        self.assert_line("open\nwhile 0\ntimes 1\nend", 5)
        self.assert_line("open\nwhile 0\nstop\nstop\nstop\nstop", 7)

    def test_each_beginning_of_a_text(self):
        for statement, lines in STATEMENTS:
            whole = text_of("stop", lines).split("\n")
            for many in range(3, len(whole)):
                self.assert_line("\n".join(whole[:many]), many + 1)

    def test_other_line_ends(self):
        for sign in ("\r", "\r\n", "\v", "\f", "\x1c", "\x85", "\u2028"):
            self.assert_line(f"open{sign}stop", 1)
            self.assert_line(f"open\nstop{sign}stop", 2)
            self.assert_line(f"open\nstop{sign}", 2)

    def test_the_first_wrong_line(self):
        self.assert_line(text_of("stop", "halt", "print 9"), 3)
        self.assert_line(text_of("print 9", "if 0"), 2)
        self.assert_line(text_of("if 0", "halt"), 3)
        self.assert_line("shut\nhalt", 1)

    def test_long_texts(self):
        self.assert_line(text_of(*["stop"] * 100000), 10)
        self.assert_line(text_of(*["while 0"] * 100000), 4)
        self.assert_line(text_of("print " + "0" * 100000), 2)
        self.assert_line("open " * 100000, 1)

    def test_no_string(self):
        for value in NO_STRINGS:
            with self.assertRaises(NotText):
                read_program(value)


if __name__ == "__main__":
    unittest.main()
