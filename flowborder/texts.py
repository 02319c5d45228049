"""Texts: programs written as lines, and read again."""

from flowborder.errors import InvalidText, NotText
from flowborder.programs import (
    FORMS,
    MOST_INNER_STATEMENTS,
    MOST_STATEMENTS,
    MOST_WITHIN,
    check_program,
    is_item,
    is_sorts,
)

# No number of a program goes beyond 9, so each one is written as one of these.
NUMBERS = {"0": 0, "1": 1, "2": 2, "3": 3, "4": 4, "5": 5, "6": 6, "7": 7, "8": 8, "9": 9}
NO_TERMS = "-"
CLOSING = ("else", "end")


def check_text(value):
    """Raise NotText for a value that is no string."""
    if not isinstance(value, str):
        raise NotText("no string")


def write_program(program):
    """The text of a program."""
    check_program(program)
    sorts, body = program
    return "\n".join([" ".join(sorts)] + body_lines(body))


def read_program(text):
    """The program of a text."""
    check_text(text)
    lines = text.split("\n")
    sorts = tuple(lines[0].split(" "))
    if not is_sorts(sorts):
        raise InvalidText(1)
    body, at = read_body(lines, 1, len(sorts), 0)
    if at < len(lines):
        raise InvalidText(at + 1)
    return (sorts, body)


def write_numbers(numbers):
    return ".".join([str(number) for number in numbers])


def read_numbers(text):
    """The tuple of the numbers that are joined in a text, with None for what is no number."""
    return tuple([NUMBERS.get(word) for word in text.split(".")])


def body_lines(body):
    lines = []
    for statement in body:
        lines.extend(statement_lines(statement))
    return lines


def statement_lines(statement):
    word = statement[0]
    if word == "if":
        _, name, first, second = statement
        return [f"if {name}"] + body_lines(first) + ["else"] + body_lines(second) + ["end"]
    if word in ("times", "while"):
        return [f"{word} {statement[1]}"] + body_lines(statement[2]) + ["end"]
    return [" ".join([item_word(item) for item in statement])]


def item_word(item):
    """An item of a plain statement as a word of its line."""
    if isinstance(item, tuple):
        return write_numbers(item) if item else NO_TERMS
    return str(item)


def read_body(lines, at, names, depth):
    """The body whose first line is at, with depth statements around it, and where the line behind it is."""
    most = MOST_INNER_STATEMENTS if depth else MOST_STATEMENTS
    body = []
    while at < len(lines) and lines[at] not in CLOSING:
        if len(body) == most:
            raise InvalidText(at + 1)
        statement, at = read_statement(lines, at, names, depth)
        body.append(statement)
    return tuple(body), at


def read_statement(lines, at, names, depth):
    """The statement whose first line is at, and where the line behind it is."""
    head = read_head(lines[at], names)
    if head is None:
        raise InvalidText(at + 1)
    word = head[0]
    if "body" not in FORMS[word]:
        return head, at + 1
    if depth == MOST_WITHIN:
        raise InvalidText(at + 1)
    body, at = read_body(lines, at + 1, names, depth + 1)
    bodies = (body,)
    if word == "if":
        body, at = read_body(lines, behind(lines, at, "else"), names, depth + 1)
        bodies = bodies + (body,)
    return head + bodies, behind(lines, at, "end")


def behind(lines, at, word):
    """Where the line behind the one at is, which must be the word alone."""
    if at == len(lines) or lines[at] != word:
        raise InvalidText(at + 1)
    return at + 1


def read_head(line, names):
    """A statement as far as its first line tells it, or None for a line that begins no statement."""
    words = line.split(" ")
    if words[0] not in FORMS:
        return None
    kinds = [kind for kind in FORMS[words[0]] if kind != "body"]
    if len(words) != len(kinds) + 1:
        return None
    items = [read_item(kind, word) for kind, word in zip(kinds, words[1:])]
    if not all([is_item(kind, item, names, 0) for kind, item in zip(kinds, items)]):
        return None
    return (words[0],) + tuple(items)


def read_item(kind, word):
    """What a word of a line stands for, which need not be an item of that kind."""
    if kind == "sort":
        return word
    if kind == "terms":
        return () if word == NO_TERMS else read_numbers(word)
    return NUMBERS.get(word)
