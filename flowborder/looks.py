"""Looks: which runs a looker can tell apart."""

from flowborder.designs import check_design
from flowborder.errors import NotMade
from flowborder.programs import HIGHEST, check_program
from flowborder.runs import check_start, outcome

MOST_SECRET_NAMES = 2


def alike(design, program, one, other):
    """Whether the runs from two starts look alike to the design's looker."""
    check_design(design)
    check_program(program)
    check_start(program, one)
    check_start(program, other)
    sorts = program[0]
    if open_numbers(sorts, one) != open_numbers(sorts, other):
        raise NotMade("starts that differ in an open name")
    return look_alike(design, sorts, outcome(program, one), outcome(program, other))


def leak(design, program, start):
    """The least start whose run does not look alike to that from start, or None."""
    check_design(design)
    check_program(program)
    check_start(program, start)
    sorts = program[0]
    if sorts.count("secret") > MOST_SECRET_NAMES:
        raise NotMade("more than two secret names")
    seen = outcome(program, start)
    for other in starts_like(sorts, start):
        if not look_alike(design, sorts, seen, outcome(program, other)):
            return other
    return None


def starts_like(sorts, start):
    """All starts that are the same in all open names, in ascending order."""
    starts = [()]
    for sort, number in zip(sorts, start):
        choices = [number] if sort == "open" else list(range(HIGHEST + 1))
        starts = [begun + (choice,) for begun in starts for choice in choices]
    return starts


def open_numbers(sorts, numbers):
    return [number for sort, number in zip(sorts, numbers) if sort == "open"]


def look_alike(design, sorts, one, other):
    """Whether two outcomes of runs of a program look alike to the design's looker."""
    if "ends seen" in design and one[0] != other[0]:
        return False
    if is_finished(one) and is_finished(other):
        return same_at_end(design, sorts, one, other)
    return "prints seen" not in design or one_begins_other(one[3], other[3])


def is_finished(seen):
    return seen[0] in ("ends", "stops")


def same_at_end(design, sorts, one, other):
    """Whether two runs that ended or stopped look alike by what they left."""
    if open_numbers(sorts, one[1]) != open_numbers(sorts, other[1]):
        return False
    if one[2][0] != other[2][0]:
        return False
    if "steps seen" in design and one[4] != other[4]:
        return False
    return "prints seen" not in design or one[3] == other[3]


def one_begins_other(one, other):
    """Whether the prints of one are a beginning of the other's, or the same."""
    shared = min(len(one), len(other))
    return one[:shared] == other[:shared]
