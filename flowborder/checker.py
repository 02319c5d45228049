"""The checker: which statements may stand in a program by a design."""

from flowborder.designs import check_design
from flowborder.programs import check_program


def fault(design, program):
    """The place of the first statement that may not stand, or None."""
    check_design(design)
    check_program(program)
    sorts, body = program
    return first_fault(design, sorts, body, False)


def lets_by(design, program):
    """Whether all statements of the program may stand."""
    return fault(design, program) is None


def first_fault(design, sorts, body, under):
    """The place of the first fault in a body, which stands under a secret or not."""
    for at, statement in enumerate(body):
        if not may_stand(design, sorts, statement, under):
            return (at,)
        within = fault_within(design, sorts, statement, under)
        if within is not None:
            return (at,) + within
    return None


def fault_within(design, sorts, statement, under):
    """The place of the first fault in the bodies of a statement, as seen from the statement."""
    word = statement[0]
    if word == "times":
        return first_fault(design, sorts, statement[2], under)
    if word == "while":
        return first_fault(design, sorts, statement[2], under or is_secret(sorts, statement[1]))
    if word == "if":
        return fault_in_branches(design, sorts, statement, under or is_secret(sorts, statement[1]))
    return None


def fault_in_branches(design, sorts, statement, under):
    for side, branch in enumerate(statement[2:]):
        within = first_fault(design, sorts, branch, under)
        if within is not None:
            return (side,) + within
    return None


def may_stand(design, sorts, statement, under):
    """Whether a statement itself may stand, whatever stands in its bodies."""
    rule = RULES[statement[0]]
    return rule(design, sorts, statement, under)


def is_secret(sorts, name):
    return sorts[name] == "secret"


def may_change(design, sort, from_secret, under):
    """Whether a name or table of a sort may be changed from something, secret or not."""
    if sort == "secret":
        return True
    if from_secret and "straight" not in design:
        return False
    return not under or "under" in design


def sum_may_stand(design, sorts, statement, under):
    name, terms = statement[1:3]
    from_secret = any([is_secret(sorts, term) for term in terms])
    return may_change(design, sorts[name], from_secret, under)


def if_may_stand(design, sorts, statement, under):
    return not is_secret(sorts, statement[1]) or "ifs" in design


def times_may_stand(design, sorts, statement, under):
    return True


def while_may_stand(design, sorts, statement, under):
    return not (is_secret(sorts, statement[1]) or under) or "whiles" in design


def print_may_stand(design, sorts, statement, under):
    if is_secret(sorts, statement[1]) and "tells" not in design:
        return False
    return not under or "prints" in design


def stop_may_stand(design, sorts, statement, under):
    return not under or "stops" in design


def split_may_stand(design, sorts, statement, under):
    name, by = statement[1:]
    if (is_secret(sorts, by) or under) and "splits" not in design:
        return False
    return may_change(design, sorts[name], is_secret(sorts, by), under)


def keep_may_stand(design, sorts, statement, under):
    table, place, name = statement[1:]
    # Which place of the open table was changed tells the number of the name that chose it.
    if table == "open" and is_secret(sorts, place) and "marks" not in design:
        return False
    return may_change(design, table, is_secret(sorts, name), under)


def fetch_may_stand(design, sorts, statement, under):
    table, name, place = statement[1:]
    from_secret = table == "secret" or is_secret(sorts, place)
    return may_change(design, sorts[name], from_secret, under)


RULES = {
    "sum": sum_may_stand,
    "if": if_may_stand,
    "times": times_may_stand,
    "while": while_may_stand,
    "print": print_may_stand,
    "stop": stop_may_stand,
    "split": split_may_stand,
    "keep": keep_may_stand,
    "fetch": fetch_may_stand,
}
