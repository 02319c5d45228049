"""A desk: a design and a program, asked and changed by lines."""

from flowborder.borders import is_sound
from flowborder.checker import fault
from flowborder.designs import check_design, is_word, with_word, without_word
from flowborder.errors import InvalidText, NothingToUndo, NotMade, NotNow
from flowborder.looks import leak
from flowborder.programs import check_program
from flowborder.runs import is_start, outcome
from flowborder.texts import check_text, read_numbers, write_numbers


class Desk:
    """A design that can be changed, and a program to try it on."""

    def __init__(self, design, program):
        check_design(design)
        check_program(program)
        self._design = design
        self._program = program
        self._earlier = []

    @property
    def design(self):
        """The design as it is now."""
        return self._design

    def run(self, line):
        """The answer to a line, or None for a line that changes the design."""
        check_text(line)
        if line == "fault":
            return place_text(fault(self._design, self._program))
        if line == "sound":
            return "yes" if is_sound(self._design) else "no"
        order, _, rest = line.partition(" ")
        if order in ("run", "leak"):
            return self._answer_from(order, read_numbers(rest))
        if order in ("permit", "forbid") and is_word(rest):
            self._change(order, rest)
            return None
        raise InvalidText(1)

    def undo(self):
        """Take the last change back."""
        if not self._earlier:
            raise NothingToUndo("no change is left")
        self._design = self._earlier.pop()

    def _answer_from(self, order, start):
        if not is_start(self._program, start):
            raise InvalidText(1)
        if order == "run":
            return run_text(outcome(self._program, start))
        try:
            return place_text(leak(self._design, self._program, start))
        except NotMade:
            raise NotNow("too many secret names") from None

    def _change(self, order, word):
        changed = permitted(self._design, word) if order == "permit" else forbidden(self._design, word)
        self._earlier.append(self._design)
        self._design = changed


def permitted(design, word):
    if word in design:
        raise NotNow("the design holds the word already")
    return with_word(design, word)


def forbidden(design, word):
    if word not in design:
        raise NotNow("the design does not hold the word")
    return without_word(design, word)


def place_text(numbers):
    """The numbers of a place or a start in one word, which may also be none at all."""
    return "none" if numbers is None else write_numbers(numbers)


def run_text(seen):
    """How a run halted, and its prints."""
    return " ".join([seen[0]] + [str(number) for number in seen[3]])
