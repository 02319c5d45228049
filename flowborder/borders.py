"""Borders: which designs are sound, and what breaks the others."""

from itertools import combinations

from flowborder.designs import WORDS, check_design, with_word
from flowborder.errors import NotMade

# The lots, ascending, each with the body of a program that breaks every design that holds it.
LOTS = (
    (("ends seen", "splits"), (("split", 1, 1),)),
    (("ends seen", "whiles"), (("while", 1, ()),)),
    (("ifs", "prints", "prints seen"), (("if", 1, (("print", 0),), ()),)),
    (("ifs", "steps seen"), (("if", 1, (("sum", 1, (), 0),), ()),)),
    (("ifs", "stops"), (("if", 1, (("stop",),), ()), ("sum", 0, (), 1))),
    (("ifs", "under"), (("if", 1, (("sum", 0, (), 1),), ()),)),
    (("marks",), (("sum", 0, (), 1), ("keep", "open", 1, 0))),
    (("prints", "prints seen", "whiles"), (("while", 1, (("print", 0), ("sum", 1, (), 0))),)),
    (("prints seen", "tells"), (("print", 1),)),
    (("steps seen", "whiles"), (("while", 1, (("sum", 1, (), 0),)),)),
    (("stops", "whiles"), (("while", 1, (("stop",),)), ("sum", 0, (), 1))),
    (("straight",), (("sum", 0, (1,), 0),)),
    (("under", "whiles"), (("while", 1, (("sum", 0, (), 1), ("sum", 1, (), 0))),)),
)


def lots():
    """The lots: no sound design holds all words of one of them."""
    return tuple([lot for lot, body in LOTS])


def lots_in(design):
    """The lots that the design holds whole."""
    check_design(design)
    return held_lots(design)


def is_sound(design):
    """Whether no program that the design lets by tells its looker anything of the secrets."""
    return lots_in(design) == ()


def breaker(design):
    """None for a sound design, else a program that it lets by, and two starts that its looker tells apart."""
    check_design(design)
    for lot, body in LOTS:
        if holds(design, lot):
            return two_runs(body)
    return None


def greatest_sound(design):
    """The sound designs that hold all words of a sound one, and to which no word can be added."""
    if not is_sound(design):
        raise NotMade("a design that is not sound")
    return tuple(sorted([held for held in sound_above(design) if is_greatest(held)]))


def fewest_drops(design):
    """The least tuple of the fewest words without which the design is sound."""
    held = lots_in(design)
    words = list(design)
    for many in range(len(words)):
        for chosen in combinations(words, many):
            if all([meets(chosen, lot) for lot in held]):
                return chosen
    return design


def held_lots(design):
    return tuple([lot for lot, body in LOTS if holds(design, lot)])


def holds(design, lot):
    return all([word in design for word in lot])


def meets(words, lot):
    """Whether a design without the words does not hold the lot whole."""
    return any([word in lot for word in words])


def sound_above(design):
    """All sound designs that hold all words of a sound one."""
    found = [design]
    for word in WORDS:
        if word not in design:
            # A design is sound only if it is so without the word: it is made of one found already.
            longer = [with_word(held, word) for held in found]
            found = found + [held for held in longer if not held_lots(held)]
    return found


def is_greatest(design):
    further = [with_word(design, word) for word in WORDS if word not in design]
    return all([held_lots(held) for held in further])


def small_program(body):
    """A program with an open name and a secret one."""
    return (("open", "secret"), body)


def two_runs(body):
    """A small program, and two starts that differ in nothing but the secret name."""
    return (small_program(body), (0, 0), (0, 1))
