"""Runs: what a program does from a start."""

from flowborder.errors import BadStart
from flowborder.programs import HIGHEST, SORTS, check_program, is_number

PLACES = 10
MOST_ROUNDS = 60


def run(program, start):
    """How the run ends, the numbers, the tables, the prints and the steps of a run."""
    check_program(program)
    check_start(program, start)
    return outcome(program, start)


def is_start(program, value):
    """Whether a value is a start of the program."""
    if not isinstance(value, tuple) or len(value) != len(program[0]):
        return False
    return all([is_number(number, HIGHEST) for number in value])


def check_start(program, value):
    """Raise BadStart for a value that is no start of the program."""
    if not is_start(program, value):
        raise BadStart("no start of the program")


def outcome(program, start):
    """What run tells, of a program and a start that are checked already."""
    state = State(start)
    halt = do_body(state, program[1])
    how = "ends" if halt is None else halt
    tables = tuple([tuple(state.tables[sort]) for sort in SORTS])
    return (how, tuple(state.numbers), tables, tuple(state.prints), state.steps)


class State:
    """What a run has made so far."""

    def __init__(self, start):
        self.numbers = list(start)
        self.tables = {sort: [0] * PLACES for sort in SORTS}
        self.prints = []
        self.steps = 0
        self.rounds = 0


def do_body(state, body):
    """Do the statements of a body in order: None, or how the run halted on the way."""
    for statement in body:
        state.steps += 1
        action = ACTIONS[statement[0]]
        halt = action(state, statement)
        if halt is not None:
            return halt
    return None


def do_sum(state, statement):
    name, terms, number = statement[1:]
    state.numbers[name] = (number + sum([state.numbers[term] for term in terms])) % 10
    return None


def do_if(state, statement):
    name, first, second = statement[1:]
    branch = first if state.numbers[name] != 0 else second
    return do_body(state, branch)


def do_times(state, statement):
    turns, body = statement[1:]
    for _ in range(turns):
        halt = do_body(state, body)
        if halt is not None:
            return halt
    return None


def do_while(state, statement):
    name, body = statement[1:]
    while state.numbers[name] != 0:
        if state.rounds == MOST_ROUNDS:
            return "goes on"
        state.rounds += 1
        halt = do_body(state, body)
        if halt is not None:
            return halt
    return None


def do_print(state, statement):
    state.prints.append(state.numbers[statement[1]])
    return None


def do_stop(state, statement):
    return "stops"


def do_split(state, statement):
    name, by = statement[1:]
    if state.numbers[by] == 0:
        return "breaks"
    state.numbers[name] = 9 // state.numbers[by]
    return None


def do_keep(state, statement):
    table, place, name = statement[1:]
    state.tables[table][state.numbers[place]] = state.numbers[name]
    return None


def do_fetch(state, statement):
    table, name, place = statement[1:]
    state.numbers[name] = state.tables[table][state.numbers[place]]
    return None


ACTIONS = {
    "sum": do_sum,
    "if": do_if,
    "times": do_times,
    "while": do_while,
    "print": do_print,
    "stop": do_stop,
    "split": do_split,
    "keep": do_keep,
    "fetch": do_fetch,
}
