"""What several tests need."""

from itertools import combinations

from flowborder.borders import breaker, fewest_drops, greatest_sound, is_sound, lots_in
from flowborder.checker import fault, lets_by
from flowborder.compares import lets_by_all, parting, sees_all, strengths, unseen
from flowborder.desks import Desk
from flowborder.errors import BadProgram, FlowError
from flowborder.looks import alike, leak
from flowborder.runs import run
from flowborder.texts import write_program

STRENGTHS = ("ifs", "marks", "prints", "splits", "stops", "straight", "tells", "under", "whiles")
SEEN = ("ends seen", "prints seen", "steps seen")
EMPTY = (0,) * 10
PAIR = ("open", "secret")

# The lots of point 9 and their bodies, as they stand there.
LOTS = [
    (("ends seen", "splits"), (("split", 1, 1),)),
    (("ends seen", "whiles"), (("while", 1, ()),)),
    (("ifs", "prints", "prints seen"), (("if", 1, (("print", 0),), ()),)),
    (("ifs", "steps seen"), (("if", 1, (("sum", 1, (), 0),), ()),)),
    (("ifs", "stops"), (("if", 1, (("stop",),), ()), ("sum", 0, (), 1))),
    (("ifs", "under"), (("if", 1, (("sum", 0, (), 1),), ()),)),
    (("marks",), (("sum", 0, (), 1), ("keep", "open", 1, 0))),
    (("prints", "prints seen", "whiles"), (("while", 1, (("print", 0), ("sum", 1, (), 0))),)),
    (("prints seen", "tells"), (("print", 1),)),
    (("steps seen", "whiles"), (("while", 1, (("sum", 1, (), 0),)),)),
    (("stops", "whiles"), (("while", 1, (("stop",),)), ("sum", 0, (), 1))),
    (("straight",), (("sum", 0, (1,), 0),)),
    (("under", "whiles"), (("while", 1, (("sum", 0, (), 1), ("sum", 1, (), 0))),)),
]



def deep_tuple():
    """A tuple within tuples, deeper than Python's recursion goes."""
    value = ()
    for _ in range(100000):
        value = (value,)
    return value


def deep_program():
    """Ifs within ifs, deeper than Python's recursion goes."""
    body = ()
    for _ in range(100000):
        body = (("if", 0, body, ()),)
    return (("open",), body)


# Values of all kinds that may be passed and that are no tuple.
NO_TUPLES = [
    0, 1, -1, 10 ** 40, True, False, None, "", "open", "ifs", [], ["ifs"], [0, 0], {}, {"ifs": 1}, {0: 0},
    FlowError("x"), BadProgram(1), [()], [[]],
]

# Values that are neither a design nor a program nor a start with two numbers.
ALWAYS_WRONG = NO_TUPLES + [
    (None,), ((),), ([],), ({},), (True, False), ("a", "b", "c"), (0, "0"), (0, None), (FlowError("x"),) * 2,
    deep_tuple(),
]


def subsets(words):
    """All ascending tuples of unlike words."""
    words = sorted(words)
    return [chosen for many in range(len(words) + 1) for chosen in combinations(words, many)]


# All designs there are, those of fewer words first.
DESIGNS = subsets(STRENGTHS + SEEN)


def calls_with_design(design, program, start):
    """Calls of all functions that take a design, with it in each place of a design."""
    return calls_with_both(design, program, start) + [
        lambda: lots_in(design),
        lambda: is_sound(design),
        lambda: breaker(design),
        lambda: greatest_sound(design),
        lambda: fewest_drops(design),
        lambda: strengths(design),
        lambda: lets_by_all(design, ()),
        lambda: lets_by_all((), design),
        lambda: parting(design, ()),
        lambda: parting((), design),
        lambda: sees_all(design, ()),
        lambda: sees_all((), design),
        lambda: unseen(design, ()),
        lambda: unseen((), design),
    ]


def calls_with_both(design, program, start):
    """Calls of all functions that take a design and a program."""
    return [
        lambda: fault(design, program),
        lambda: lets_by(design, program),
        lambda: alike(design, program, start, start),
        lambda: leak(design, program, start),
        lambda: Desk(design, program),
    ]


def calls_with_program(program, start):
    """Calls of all functions that take a program."""
    return calls_with_both((), program, start) + [lambda: run(program, start), lambda: write_program(program)]


def calls_with_start(program, wrong, right):
    """Calls of all functions that take a start, with a wrong one in each place of a start."""
    return [
        lambda: run(program, wrong),
        lambda: alike((), program, wrong, right),
        lambda: alike((), program, right, wrong),
        lambda: alike((), program, wrong, wrong),
        lambda: leak((), program, wrong),
    ]
