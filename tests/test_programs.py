"""Programs (point 2)."""

import unittest

from flowborder.errors import BadProgram, FlowError
from flowborder.programs import is_program

from tests.helpers import NO_TUPLES, calls_with_program, deep_program, deep_tuple

STOP = ("stop",)
STOPS = (STOP,) * 4


def of_three(*body):
    """A program of three names, 0 and 2 open and 1 secret."""
    return (("open", "secret", "open"), body)


def in_if(*body):
    return ("if", 0, body, ())


def in_else(*body):
    return ("if", 0, (), body)


def in_times(*body):
    return ("times", 1, body)


def in_while(*body):
    return ("while", 0, body)


HOLDERS = (in_if, in_else, in_times, in_while)

NO_NAMES = [3, 4, -1, 10 ** 30, True, False, None, "0", "", (), (0,), [0], [], {}, {0: 0}, FlowError("x")]
NO_DIGITS = [10, 11, -1, 10 ** 30, True, False, None, "0", "", (), (0,), [0], {}, FlowError("x")]
NO_TURNS = [4, 5, 9, -1, 10 ** 30, True, False, None, "0", (), (0,), [0], {}, FlowError("x")]
NO_SORTS = ["", "Open", "open ", "hidden", "opensecret", 0, 1, True, None, (), ("open",), ["open"], {}, FlowError("x")]
NO_TERMS = [(3,), (0, 3), (3, 0), (-1,), (0, 1, 2), (0, 0, 0), (True,), (0, False), ("0",), (None,), ((0,),), ([0],),
            [], [0], [0, 1], 0, "", "0", None, True, {}, FlowError("x")]
NO_INNER_BODIES = [STOPS + (STOP,), STOPS * 2, STOP, (STOP, ()), ((),), (0,), ("stop",), [], [STOP], list(STOPS), {},
                   0, None, True, "", "stop", ("",), (["stop"],), (None,), (("stop",), 0), FlowError("x")]

RIGHT_STATEMENTS = [
    ("sum", 0, (), 0), ("sum", 2, (), 9), ("sum", 1, (0,), 5), ("sum", 0, (1, 2), 1), ("sum", 0, (2, 2), 9),
    ("if", 0, (), ()), ("if", 1, (STOP,), ()), ("if", 2, (), (STOP,)), ("if", 0, STOPS, STOPS),
    ("times", 0, ()), ("times", 1, (STOP,)), ("times", 2, STOPS), ("times", 3, ()),
    ("while", 0, ()), ("while", 1, (STOP,)), ("while", 2, STOPS),
    ("print", 0), ("print", 1), ("print", 2),
    ("stop",),
    ("split", 0, 0), ("split", 1, 2), ("split", 2, 1),
    ("keep", "open", 0, 0), ("keep", "secret", 1, 2), ("keep", "open", 2, 1),
    ("fetch", "open", 0, 0), ("fetch", "secret", 1, 2), ("fetch", "open", 2, 1),
]


def wrong_items():
    """Statements of each kind with one wrong item."""
    rows = []
    for x in NO_NAMES:
        rows += [("sum", x, (), 0), ("sum", 0, (x,), 0), ("sum", 0, (0, x), 0), ("sum", 0, (x, 0), 0)]
        rows += [("if", x, (), ()), ("while", x, ()), ("print", x), ("split", x, 0), ("split", 0, x)]
        rows += [(word, sort, *pair) for word in ("keep", "fetch") for sort in ("open", "secret")
                 for pair in ((x, 0), (0, x))]
    rows += [("sum", 0, terms, 0) for terms in NO_TERMS]
    rows += [("sum", 0, (), n) for n in NO_DIGITS]
    rows += [("times", n, ()) for n in NO_TURNS]
    rows += [(word, sort, 0, 0) for word in ("keep", "fetch") for sort in NO_SORTS]
    for body in NO_INNER_BODIES:
        rows += [("if", 0, body, ()), ("if", 0, (), body), ("times", 1, body), ("while", 0, body)]
    return rows


def wrong_forms():
    """Values that are no statement by their word, their length or their kind."""
    rows = [row[:-1] for row in RIGHT_STATEMENTS] + [row + (0,) for row in RIGHT_STATEMENTS]
    rows += [row + ((),) for row in RIGHT_STATEMENTS] + [list(row) for row in RIGHT_STATEMENTS]
    rows += [(row[0].upper(),) + row[1:] for row in RIGHT_STATEMENTS]
    rows += [(), "stop", 0, None, True, {}, [], (0,), (None,), (True,), ((),), ([],), ({},), ("",), ("halt",)]
    rows += [("stops",), ("else",), ("end",), ("stop", 0), ("print", "0"), (("stop",),), (["stop"],)]
    rows += [("for", 0, ()), ("times", 0), ("times", 0, (), ()), ("while", 0), ("while", 0, (), ()), ("if", 0, ())]
    rows += [("if", 0, (), (), ()), ("print",), ("print", 0, 0), ("split", 0), ("split", 0, 0, 0), FlowError("x")]
    rows += [("sum", 0, ()), ("sum", 0, 1), ("sum", 0, (), 0, 0), ("keep", "open", 0), ("fetch", 0, 0), deep_tuple()]
    return rows


class Programs(unittest.TestCase):
    def assert_program(self, value):
        self.assertIs(is_program(value), True, value)
        for call in calls_with_program(value, (1,) * len(value[0])):
            try:
                call()
            except BadProgram:
                self.fail(f"a program: {value}")
            except FlowError:
                pass

    def assert_bad(self, value, part, hint=None):
        self.assertIs(is_program(value), False, hint)
        for call in calls_with_program(value, (1, 1, 1)):
            with self.assertRaises(BadProgram, msg=hint) as caught:
                call()
            self.assertIs(caught.exception.part, part, hint)

    def test_smallest_and_largest(self):
        self.assert_program((("open",), ()))
        self.assert_program((("secret",), ()))
        self.assert_program((("open", "secret") * 3, (STOP,) * 8))

    def test_no_pair(self):
        sorts, body = of_three(STOP)
        wrong = NO_TUPLES + [
            (), (sorts,), (body,), (sorts, body, ()), (sorts, body, body), [sorts, body], {0: sorts, 1: body},
            deep_tuple(), (None,), (None, None, None), ((sorts, body),),
        ]
        for at, value in enumerate(wrong):
            self.assert_bad(value, None, at)

    def test_sorts(self):
        for many in range(1, 7):
            self.assert_program((("open",) * many, ()))
            self.assert_program((("secret",) * many, ()))
        wrong = NO_TUPLES + [(), ("open",) * 7, ("secret",) * 8, ("open", "public"), ("open", ""), ("Open",)]
        wrong += [("open", "secret", x) for x in NO_SORTS] + [(x, "open") for x in NO_SORTS]
        wrong += [["open", "secret"], ("opensecret",), (("open",),), deep_tuple()]
        for at, sorts in enumerate(wrong):
            self.assert_bad((sorts, ()), 0, at)
            self.assert_bad((sorts, (STOP,)), 0, at)

    def test_sorts_are_named_before_the_body(self):
        for body in ([], None, (STOP,) * 9, (("print", 7),)):
            self.assert_bad(((), body), 0)
            self.assert_bad((("open",) * 7, body), 0)
            self.assert_bad((["open"], body), 0)
            self.assert_bad((("open",), body), 1)
            self.assert_bad((("open",), body, 0), None)

    def test_whole_body(self):
        for many in range(9):
            self.assert_program(of_three(*(STOP,) * many))
        self.assert_bad(of_three(*(STOP,) * 9), 1)
        self.assert_bad(of_three(*(STOP,) * 10), 1)
        for at, body in enumerate(NO_TUPLES):
            self.assert_bad((("open",), body), 1, at)
        self.assert_bad((("open",), [STOP]), 1)
        self.assert_bad((("open",), STOP), 1)
        self.assert_bad((("open",), deep_tuple()), 1)

    def test_right_statements(self):
        for row in RIGHT_STATEMENTS:
            self.assert_program(of_three(row))
            self.assert_program(of_three(*[STOP] * 7, row))
            for holder in HOLDERS:
                self.assert_program(of_three(holder(row)))

    def test_right_statements_two_deep(self):
        for row in RIGHT_STATEMENTS:
            nests = row[0] in ("if", "times", "while")
            for outer in HOLDERS:
                for inner in HOLDERS:
                    program = of_three(outer(STOP, inner(STOP, row)))
                    if nests:
                        self.assert_bad(program, 1)
                    else:
                        self.assert_program(program)

    def test_two_and_three_within_one_another(self):
        for outer in HOLDERS:
            for inner in HOLDERS:
                self.assert_program(of_three(outer(inner(STOP))))
                self.assert_program(of_three(outer(inner(), inner(), inner(), inner()), outer(inner())))
                for third in HOLDERS:
                    self.assert_bad(of_three(outer(inner(third(STOP)))), 1)
                    self.assert_bad(of_three(STOP, outer(STOP, inner(STOP, third()))), 1)
        self.assert_bad(deep_program(), 1, "deep")

    def test_inner_bodies(self):
        for holder in HOLDERS:
            for many in range(5):
                self.assert_program(of_three(holder(*(STOP,) * many)))
                self.assert_program(of_three(in_while(holder(*(STOP,) * many))))
            self.assert_bad(of_three(holder(*(STOP,) * 5)), 1)
            self.assert_bad(of_three(in_while(holder(*(STOP,) * 5))), 1)
            self.assert_bad(of_three(holder(*(STOP,) * 8)), 1)

    def test_both_bodies_of_an_if(self):
        self.assert_program(of_three(("if", 0, STOPS, STOPS)))
        self.assert_bad(of_three(("if", 0, STOPS + (STOP,), STOPS)), 1)
        self.assert_bad(of_three(("if", 0, STOPS, STOPS + (STOP,))), 1)

    def test_numbers_of_a_sum(self):
        for n in range(10):
            self.assert_program(of_three(("sum", 0, (), n)))
        self.assert_bad(of_three(("sum", 0, (), 10)), 1)
        self.assert_bad(of_three(("sum", 0, (), -1)), 1)

    def test_turns(self):
        for n in range(4):
            self.assert_program(of_three(("times", n, ())))
        self.assert_bad(of_three(("times", 4, ())), 1)
        self.assert_bad(of_three(("times", -1, ())), 1)

    def test_terms(self):
        self.assert_program(of_three(("sum", 0, (), 0)))
        self.assert_program(of_three(("sum", 0, (1,), 0)))
        self.assert_program(of_three(("sum", 0, (1, 2), 0)))
        self.assert_program(of_three(("sum", 0, (2, 1), 0)))
        self.assert_bad(of_three(("sum", 0, (0, 1, 2), 0)), 1)

    def test_names_that_the_sorts_have(self):
        for many in range(1, 7):
            sorts = ("secret",) * many
            last = many - 1
            for row in (
                ("sum", last, (), 0), ("sum", 0, (last,), 0), ("if", last, (), ()), ("while", last, ()),
                ("print", last), ("split", last, 0), ("split", 0, last), ("keep", "open", last, 0),
                ("keep", "open", 0, last), ("fetch", "open", last, 0), ("fetch", "open", 0, last),
            ):
                self.assert_program((sorts, (row,)))
                self.assert_program((sorts, (in_times(row),)))
            for row in (
                ("sum", many, (), 0), ("sum", 0, (many,), 0), ("if", many, (), ()), ("while", many, ()),
                ("print", many), ("split", many, 0), ("split", 0, many), ("keep", "open", many, 0),
                ("keep", "open", 0, many), ("fetch", "open", many, 0), ("fetch", "open", 0, many),
            ):
                self.assert_bad((sorts, (row,)), 1)
                self.assert_bad((sorts, (in_times(row),)), 1)

    def test_wrong_items(self):
        for at, row in enumerate(wrong_items()):
            self.assert_bad(of_three(row), 1, at)

    def test_wrong_forms(self):
        for at, row in enumerate(wrong_forms()):
            if row in RIGHT_STATEMENTS:
                continue
            self.assert_bad(of_three(row), 1, at)
            self.assert_bad(of_three(STOP, row), 1, at)

    def test_wrong_statements_within_others(self):
        for row in (("print", 3), ("sum", 0, (), 10), ("halt",), ("stop", 0), ["stop"], ()):
            for outer in HOLDERS:
                self.assert_bad(of_three(outer(row)), 1)
                self.assert_bad(of_three(outer(STOP, STOP, STOP, row)), 1)
                for inner in HOLDERS:
                    self.assert_bad(of_three(outer(inner(row))), 1)
                    self.assert_bad(of_three(STOP, outer(STOP, inner(STOP, row))), 1)


if __name__ == "__main__":
    unittest.main()
