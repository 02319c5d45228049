"""What a design is: the words that it holds."""

from flowborder.errors import BadDesign

WORDS = (
    "ends seen",
    "ifs",
    "marks",
    "prints",
    "prints seen",
    "splits",
    "steps seen",
    "stops",
    "straight",
    "tells",
    "under",
    "whiles",
)
LOOKER = ("ends seen", "prints seen", "steps seen")


def is_design(value):
    """Whether a value is a design."""
    if not isinstance(value, tuple):
        return False
    if not all([is_word(word) for word in value]):
        return False
    return list(value) == sorted(set(value))


def is_word(value):
    return isinstance(value, str) and value in WORDS


def check_design(value):
    """Raise BadDesign for a value that is no design."""
    if not is_design(value):
        raise BadDesign("no design")


def with_word(design, word):
    """The design with a word that it does not hold yet."""
    return tuple(sorted(design + (word,)))


def without_word(design, word):
    return tuple([held for held in design if held != word])
