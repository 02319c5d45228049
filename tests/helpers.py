"""What several tests need."""

from itertools import combinations

from flowborder.checker import fault, lets_by
from flowborder.errors import BadProgram, FlowError
from flowborder.looks import alike, leak
from flowborder.runs import run

STRENGTHS = ("ifs", "marks", "prints", "splits", "stops", "straight", "tells", "under", "whiles")
SEEN = ("ends seen", "prints seen", "steps seen")
EMPTY = (0,) * 10


def deep_tuple():
    """A tuple within tuples, deeper than Python's recursion goes."""
    value = ()
    for _ in range(100000):
        value = (value,)
    return value


def deep_program():
    """Ifs within ifs, deeper than Python's recursion goes."""
    body = ()
    for _ in range(100000):
        body = (("if", 0, body, ()),)
    return (("open",), body)


# Values of all kinds that may be passed and that are no tuple.
NO_TUPLES = [
    0, 1, -1, 10 ** 40, True, False, None, "", "open", "ifs", [], ["ifs"], [0, 0], {}, {"ifs": 1}, {0: 0},
    FlowError("x"), BadProgram(1), [()], [[]],
]

# Values that are neither a design nor a program nor a start with two numbers.
ALWAYS_WRONG = NO_TUPLES + [
    (None,), ((),), ([],), ({},), (True, False), ("a", "b", "c"), (0, "0"), (0, None), (FlowError("x"),) * 2,
    deep_tuple(),
]


def subsets(words):
    """All ascending tuples of unlike words."""
    words = sorted(words)
    return [chosen for many in range(len(words) + 1) for chosen in combinations(words, many)]


def calls_with_design(design, program, start):
    """Calls of all functions that take a design."""
    return [
        lambda: fault(design, program),
        lambda: lets_by(design, program),
        lambda: alike(design, program, start, start),
        lambda: leak(design, program, start),
    ]


def calls_with_program(program, start):
    """Calls of all functions that take a program."""
    return calls_with_design((), program, start) + [lambda: run(program, start)]


def calls_with_start(program, wrong, right):
    """Calls of all functions that take a start, with a wrong one in each place of a start."""
    return [
        lambda: run(program, wrong),
        lambda: alike((), program, wrong, right),
        lambda: alike((), program, right, wrong),
        lambda: alike((), program, wrong, wrong),
        lambda: leak((), program, wrong),
    ]
