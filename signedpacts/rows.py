"""Rows of numbers, their combinations and their pivots ([9], [11])."""


def combine(rows, factors, *, width):
    """The combination of the rows with the factors: in each column the sum of factor times entry."""
    total = [0 for _ in range(width)]
    for row, factor in zip(rows, factors):
        if factor != 0:
            total = [entry + factor * more for entry, more in zip(total, row)]
    return tuple(total)


def added(rows):
    """The sum of rows of one width, of which there is at least one."""
    return tuple([sum(column) for column in zip(*rows)])


def difference(row, other):
    """The row minus the other one."""
    return tuple([entry - less for entry, less in zip(row, other)])


def pivot_column(row):
    """The column of the first entry that is not 0, or the width if there is none."""
    for column, entry in enumerate(row):
        if entry != 0:
            return column
    return len(row)


def without_multiple(row, factor, other):
    """The row minus `factor` times the other row."""
    if factor == 0:
        return row
    return [entry - factor * less for entry, less in zip(row, other)]
