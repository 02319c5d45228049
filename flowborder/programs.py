"""What a program is: its sorts and its body."""

from flowborder.errors import BadProgram

SORTS = ("open", "secret")
HIGHEST = 9
MOST_NAMES = 6
MOST_STATEMENTS = 8
MOST_INNER_STATEMENTS = 4
MOST_WITHIN = 2
MOST_TERMS = 2
MOST_TURNS = 3

# For each kind of statement, the kinds of the items behind its word.
FORMS = {
    "sum": ("name", "terms", "number"),
    "if": ("name", "body", "body"),
    "times": ("turns", "body"),
    "while": ("name", "body"),
    "print": ("name",),
    "stop": (),
    "split": ("name", "name"),
    "keep": ("sort", "name", "name"),
    "fetch": ("sort", "name", "name"),
}


def is_program(value):
    """Whether a value is a program."""
    return is_pair(value) and is_sorts(value[0]) and is_whole_body(value[1], len(value[0]))


def check_program(value):
    """Raise BadProgram for a value that is no program."""
    if not is_pair(value):
        raise BadProgram(None)
    if not is_sorts(value[0]):
        raise BadProgram(0)
    if not is_whole_body(value[1], len(value[0])):
        raise BadProgram(1)


def is_pair(value):
    return isinstance(value, tuple) and len(value) == 2


def is_sorts(value):
    if not isinstance(value, tuple) or not 1 <= len(value) <= MOST_NAMES:
        return False
    return all([is_sort(word) for word in value])


def is_sort(value):
    return isinstance(value, str) and value in SORTS


def is_number(value, most):
    """Whether a value is an integer from 0 to most (True and False are none)."""
    return isinstance(value, int) and not isinstance(value, bool) and 0 <= value <= most


def is_whole_body(value, names):
    return is_body(value, names, MOST_STATEMENTS, 0)


def is_body(value, names, most, depth):
    """Whether a value is a body of at most so many statements, with depth others around it."""
    if not isinstance(value, tuple) or len(value) > most:
        return False
    return all([is_statement(statement, names, depth) for statement in value])


def is_statement(value, names, depth):
    if not isinstance(value, tuple) or not value:
        return False
    if not isinstance(value[0], str) or value[0] not in FORMS:
        return False
    kinds = FORMS[value[0]]
    items = value[1:]
    if len(items) != len(kinds):
        return False
    return all([is_item(kind, item, names, depth) for kind, item in zip(kinds, items)])


def is_item(kind, value, names, depth):
    if kind == "name":
        return is_number(value, names - 1)
    if kind == "number":
        return is_number(value, HIGHEST)
    if kind == "turns":
        return is_number(value, MOST_TURNS)
    if kind == "sort":
        return is_sort(value)
    if kind == "terms":
        return is_terms(value, names)
    # Only if, times and while have bodies, so a body too deep is one of these too deep.
    return depth < MOST_WITHIN and is_body(value, names, MOST_INNER_STATEMENTS, depth + 1)


def is_terms(value, names):
    if not isinstance(value, tuple) or len(value) > MOST_TERMS:
        return False
    return all([is_number(name, names - 1) for name in value])
