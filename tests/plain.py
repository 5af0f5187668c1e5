"""Plain reckonings that the tests compare the program with."""
import itertools
import random

from signedpacts.machines import Machine


def all_texts(letters, most):
    """All texts of at most that many letters: the shortest ones first, then in the order of the letters."""
    return ["".join(text) for length in range(most + 1) for text in itertools.product(letters, repeat=length)]


def reads(letters, rows, good, text):
    """True if the rows, as they are passed, accept the text."""
    if not rows:
        return False
    state = 0
    for character in text:
        if character not in letters or state is None:
            return False
        state = rows[state][letters.index(character)]
    return state is not None and (good is None or state in good)


def some_rows(chance, width, most):
    """Rows for a machine, with gaps; from few to `most`."""
    many = chance.randint(1, most)
    gaps = chance.choice([0, 0.2, 0.5])
    return [[None if chance.random() < gaps else chance.randrange(many) for _ in range(width)] for _ in range(many)]


def some_machines(seed, letters, count, most=6):
    """A list of `count` machines, the same ones for the same seed."""
    chance = random.Random(seed)
    found = []
    for _ in range(count):
        rows = some_rows(chance, len(letters), most)
        good = [state for state in range(len(rows)) if chance.random() < 0.4]
        found.append(Machine(letters, rows, good))
    return found


def language(machine, most):
    """The accepted texts of at most that many letters, read off the fields."""
    return [text for text in all_texts(machine.letters, most)
            if reads(machine.letters, machine.rows, machine.good, text)]


def is_staircase(steps, width):
    """True if the rows are a staircase as [11] says."""
    pivots = []
    for step in steps:
        columns = [column for column, entry in enumerate(step) if entry != 0]
        if len(step) != width or not columns or step[columns[0]] < 0:
            return False
        pivots.append(columns[0])
    for later, column in enumerate(pivots):
        if later and pivots[later - 1] >= column:
            return False
        if any(not 0 <= steps[earlier][column] < steps[later][column] for earlier in range(later)):
            return False
    return True


def combined(rows, factors, width):
    """The combination of the rows with the factors."""
    assert len(rows) == len(factors)
    return tuple(sum(factor * row[column] for row, factor in zip(rows, factors)) for column in range(width))


def reached(rows, width, reach):
    """All combinations of the rows that can be reached from zeros inside of a box, for small rows."""
    seen = {(0,) * width}
    waiting = list(seen)
    while waiting:
        here = waiting.pop()
        for row in rows:
            for sign in (1, -1):
                there = tuple(entry + sign * more for entry, more in zip(here, row))
                if there not in seen and max(map(abs, there), default=0) <= reach:
                    seen.add(there)
                    waiting.append(there)
    return seen


def box(width, reach):
    """All rows of the width whose entries are at most `reach` away from 0."""
    return itertools.product(range(-reach, reach + 1), repeat=width)
