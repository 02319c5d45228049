"""A second reading of points 6 to 8, to compare with, and programs to compare over.

It keeps what is still to be done on one list, where flowborder does bodies within bodies.
"""

from random import Random


def expected_run(program, start):
    numbers, prints, steps, rounds = list(start), [], 0, 0
    cells = {}
    todo = list(reversed(program[1]))
    how = "ends"
    while todo:
        row = todo.pop()
        if row[0] == "again":
            if numbers[row[1]]:
                rounds += 1
                if rounds > 60:
                    how = "goes on"
                    break
                todo += [row, *reversed(row[2])]
            continue
        steps += 1
        if row[0] == "sum":
            numbers[row[1]] = int(str(row[3] + sum(numbers[term] for term in row[2]))[-1])
        elif row[0] == "if":
            todo += reversed(row[2] if numbers[row[1]] else row[3])
        elif row[0] == "times":
            todo += reversed(row[2] * row[1])
        elif row[0] == "while":
            todo.append(("again", row[1], row[2]))
        elif row[0] == "print":
            prints.append(numbers[row[1]])
        elif row[0] == "stop":
            how = "stops"
            break
        elif row[0] == "split":
            if not numbers[row[2]]:
                how = "breaks"
                break
            numbers[row[1]] = (None, 9, 4, 3, 2, 1, 1, 1, 1, 1)[numbers[row[2]]]
        elif row[0] == "keep":
            cells[row[1], numbers[row[2]]] = numbers[row[3]]
        else:
            numbers[row[2]] = cells.get((row[1], numbers[row[3]]), 0)
    tables = tuple(tuple(cells.get((table, k), 0) for k in range(10)) for table in ("open", "secret"))
    return how, tuple(numbers), tables, tuple(prints), steps


def expected_alike(design, sorts, one, other):
    if "ends seen" in design and one[0] != other[0]:
        return False
    if {one[0], other[0]} <= {"ends", "stops"}:
        opens = [k for k, sort in enumerate(sorts) if sort == "open"]
        left = [[seen[1][k] for k in opens] + list(seen[2][0]) for seen in (one, other)]
        if "steps seen" in design:
            left = [kept + [seen[4]] for kept, seen in zip(left, (one, other))]
        if "prints seen" in design:
            left = [kept + list(seen[3]) + [len(seen[3])] for kept, seen in zip(left, (one, other))]
        return left[0] == left[1]
    return "prints seen" not in design or all(a == b for a, b in zip(one[3], other[3]))


def some_statement(chance, names, depth):
    name = chance.randrange(names)
    table = chance.choice(("open", "secret"))
    words = ["sum", "sum", "print", "split", "keep", "fetch", "stop"]
    if depth < 2:
        words += ["if", "if", "times", "while", "while"]
    word = chance.choice(words)
    if word == "stop" and chance.randrange(3):
        word = "print"
    if word == "sum":
        terms = tuple(chance.randrange(names) for _ in range(chance.randrange(3)))
        return ("sum", name, terms, chance.randrange(10))
    if word == "if":
        return ("if", name, some_body(chance, names, 4, depth + 1), some_body(chance, names, 4, depth + 1))
    if word == "times":
        return ("times", chance.randrange(4), some_body(chance, names, 4, depth + 1))
    if word == "while":
        return ("while", name, some_body(chance, names, 4, depth + 1))
    if word == "print":
        return ("print", name)
    if word == "stop":
        return ("stop",)
    if word == "split":
        return ("split", name, chance.randrange(names))
    return (word, table, name, chance.randrange(names))


def some_body(chance, names, most, depth):
    return tuple(some_statement(chance, names, depth) for _ in range(chance.randrange(most + 1)))


def some_programs(many, seed, most_names=6):
    """The same programs each time, of all kinds of statements."""
    chance = Random(seed)
    programs = []
    for _ in range(many):
        sorts = tuple(chance.choice(("open", "secret")) for _ in range(chance.randrange(1, most_names + 1)))
        start = tuple(chance.randrange(10) for _ in sorts)
        programs.append(((sorts, some_body(chance, len(sorts), 8, 0)), start))
    return programs
