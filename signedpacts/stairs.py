"""Staircases: the one form of all rows with the same combinations, and division by it ([11], [12])."""
from signedpacts.rows import pivot_column, without_multiple


def bezout(one, other):
    """The greatest common divisor of two positive numbers, and the factors that combine them to it."""
    divisor, rest = one, other
    factor, further = 1, 0
    while rest:
        times = divisor // rest
        divisor, rest = rest, divisor - times * rest
        factor, further = further, factor - times * further
    return divisor, factor, (divisor - factor * one) // other


def reduced(row, steps):
    """The row minus multiples of steps, such that its entries in their pivot columns are least."""
    for step in steps:
        column = pivot_column(step)
        row = without_multiple(row, row[column] // step[column], step)
    return row


def is_combination(row, steps):
    """True if the row is a combination of the steps of a staircase."""
    rest = row
    for step in steps:
        column = pivot_column(step)
        factor = rest[column] // step[column]
        if factor * step[column] != rest[column]:
            return False
        rest = without_multiple(rest, factor, step)
    return not any(rest)


def crossed(step, row, column):
    """Two rows with the same combinations as step and row; the second one has a 0 in the column."""
    divisor, mine, its = bezout(step[column], row[column])
    many, less = step[column] // divisor, row[column] // divisor
    first = [mine * above + its * below for above, below in zip(step, row)]
    second = [many * below - less * above for above, below in zip(step, row)]
    return first, second


def tidied(steps):
    """The staircase of rows that break its rules only above their pivots."""
    done = []
    for step in reversed(list(steps)):
        done = [reduced(step, done), *done]
    return done


def with_row(steps, row, width):
    """The staircase with one more row, and what is left of the row if it gives no step of its own.

    Only the first `width` entries of rows count; what stands behind them is carried along. What is
    left has only zeros among the first ones. It is None if the row has become a step.
    """
    rest = reduced(row, steps)
    if pivot_column(rest) >= width:
        return steps, rest
    found = []
    for at, step in enumerate(steps):
        column = pivot_column(step)
        if pivot_column(rest) == column:
            first, second = crossed(step, rest, column)
            found.append(first)
            # It is reduced at once, or else its entries would grow from step to step.
            rest = reduced(second, steps[at + 1:])
        else:
            found.append(step)
    place = pivot_column(rest)
    if place >= width:
        return tidied(found), rest
    positive = rest if rest[place] > 0 else [-entry for entry in rest]
    above = [step for step in found if pivot_column(step) < place]
    below = [step for step in found if pivot_column(step) > place]
    return tidied([*above, positive, *below]), None


def steps_of(rows, width):
    """The staircase with the same combinations as the rows, a tuple of tuples."""
    steps = []
    for row in rows:
        steps, _ = with_row(steps, list(row), width)
    return tuple([tuple(step) for step in steps])


def staircase(rows, *, width):
    """The staircase with the same combinations as the rows, and the factors that give its steps."""
    steps = []
    # A relation is a combination of the given rows that gives zeros. It stands here with the place of
    # the last row that it uses. Relations keep the factors small.
    relations = []
    for at, row in enumerate(rows):
        marked = [*row, *[1 if place == at else 0 for place in range(len(rows))]]
        steps, rest = with_row(steps, marked, width)
        if rest is not None and rest[width + at] > 1:
            relations = [(width + at, lightened(rest, relations)), *relations]
            steps = [lightened(step, relations) for step in steps]
    return tuple([tuple(step[:width]) for step in steps]), tuple([tuple(step[width:]) for step in steps])


def lightened(row, relations):
    """The row minus multiples of relations, the one with the last place first."""
    for place, relation in relations:
        row = without_multiple(row, row[place] // relation[place], relation)
    return row


def remainder(row, steps):
    """The row divided by a staircase: the rest, and the factors with which the steps add up to the difference."""
    rest = list(row)
    factors = []
    for step in steps:
        column = pivot_column(step)
        factor = rest[column] // step[column]
        factors.append(factor)
        rest = without_multiple(rest, factor, step)
    return tuple(rest), tuple(factors)
