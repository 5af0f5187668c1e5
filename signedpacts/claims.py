"""Claims about rows, and the claims that describe a set of rows exactly ([10], [16])."""
from math import gcd

from signedpacts.rows import pivot_column


def total_of(coefs, row):
    """The sum of coefficient times entry over all columns."""
    return sum([coef * entry for coef, entry in zip(coefs, row)])


def keeps(row, claim):
    """True if the row keeps the claim, otherwise False."""
    coefs, result, modulus = claim
    over = total_of(coefs, row) - result
    return over == 0 if modulus == 0 else over % modulus == 0


def lowest_terms(numbers, divisor):
    """The numbers and the divisor without the factors that they all have in common."""
    common = divisor
    for number in numbers:
        common = gcd(common, number)
    return [number // common for number in numbers], divisor // common


def solved(square, goal):
    """Numbers and a positive divisor in lowest terms: the numbers combine the columns to divisor times goal.

    `square` has a positive number in the diagonal of each row and only zeros to the left of it.
    """
    found = []
    divisor = 1
    for at, row in reversed(list(enumerate(square))):
        lacking = divisor * goal[at] - total_of(row[at + 1:], found)
        scaled = [lacking, *[row[at] * number for number in found]]
        found, divisor = lowest_terms(scaled, row[at] * divisor)
    return found, divisor


def spread(numbers, columns, width):
    """The row of this width with the numbers in these columns and zeros in the others."""
    place = {column: number for column, number in zip(columns, numbers)}
    return [place.get(column, 0) for column in range(width)]


def divisible_claim(coefs, modulus, start):
    """The claim that the start keeps, with these coefficients and this modulus above 0, in lowest terms."""
    return tuple([coef % modulus for coef in coefs]), total_of(coefs, start) % modulus, modulus


def equal_claim(coefs, start):
    """The claim with modulus 0 that the start keeps, its first coefficient that is not 0 being positive."""
    sign = 1 if coefs[pivot_column(coefs)] > 0 else -1
    return tuple([sign * coef for coef in coefs]), sign * total_of(coefs, start), 0


def exact_claims(start, steps):
    """The claims that just those rows keep that are the start plus a combination of the staircase.

    The factors of the steps follow from the entries in the pivot columns. So there is a claim for each
    step, its factor is a whole number, and one for each other column, its entry is the one that these
    factors give.
    """
    width = len(start)
    pivots = [pivot_column(step) for step in steps]
    square = [[step[pivot] for pivot in pivots] for step in steps]
    found = []
    for at in range(len(steps)):
        numbers, modulus = solved(square, [1 if row == at else 0 for row in range(len(steps))])
        if modulus > 1:
            found.append(divisible_claim(spread(numbers, pivots, width), modulus, start))
    for column in range(width):
        if column not in pivots:
            numbers, divisor = solved(square, [step[column] for step in steps])
            found.append(equal_claim(spread([*numbers, -divisor], [*pivots, column], width), start))
    return tuple(found)
