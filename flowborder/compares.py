"""Designs compared: which of two lets by, or sees, all that the other one does."""

from flowborder.borders import small_program, two_runs
from flowborder.designs import LOOKER, check_design

# Nothing can stand under a secret by a design without one of these, so that these strengths come to nothing.
BRANCHES = ("ifs", "whiles")
UNDER_SECRETS = ("prints", "stops", "under")

PARTING_BODIES = {
    "ifs": (("if", 1, (), ()),),
    "marks": (("keep", "open", 1, 0),),
    "splits": (("split", 1, 1),),
    "straight": (("sum", 0, (1,), 0),),
    "tells": (("print", 1),),
    "whiles": (("while", 1, ()),),
}
PARTING_STATEMENTS = {
    "prints": ("print", 0),
    "stops": ("stop",),
    "under": ("sum", 0, (), 1),
}
UNSEEN_BODIES = {
    "ends seen": (("while", 1, ()),),
    "prints seen": (("print", 1),),
    "steps seen": (("if", 1, (("sum", 1, (), 0),), ()),),
}


def strengths(design):
    """The words of a design by which its checker lets more programs by."""
    check_design(design)
    return tuple([word for word in design if is_strength(design, word)])


def lets_by_all(one, other):
    """Whether one lets by each program that other lets by."""
    return lacking_strengths(one, other) == []


def parting(one, other):
    """A program that other lets by and one does not, or None."""
    lacking = lacking_strengths(one, other)
    if not lacking:
        return None
    return small_program(parting_body(other, lacking[0]))


def sees_all(one, other):
    """Whether one's looker tells all runs apart that other's looker tells apart."""
    return lacking_sights(one, other) == []


def unseen(one, other):
    """A program and two starts whose runs other's looker tells apart and one's does not, or None."""
    lacking = lacking_sights(one, other)
    if not lacking:
        return None
    return two_runs(UNSEEN_BODIES[lacking[0]])


def is_strength(design, word):
    if word in LOOKER:
        return False
    return word not in UNDER_SECRETS or any([branch in design for branch in BRANCHES])


def lacking_strengths(one, other):
    """The strengths, ascending, that other has and one has not."""
    had = strengths(one)
    return [word for word in strengths(other) if word not in had]


def lacking_sights(one, other):
    """The words, ascending, of other's looker that one does not hold."""
    check_design(one)
    check_design(other)
    return [word for word in other if word in LOOKER and word not in one]


def parting_body(design, word):
    """A body that the design lets by and that stands by no design without the strength."""
    if word not in UNDER_SECRETS:
        return PARTING_BODIES[word]
    statement = PARTING_STATEMENTS[word]
    if "ifs" in design:
        return (("if", 1, (statement,), ()),)
    return (("while", 1, (statement,)),)
