"""Count sets: a row plus all combinations of rows, in their unique form ([13] to [16])."""
from signedpacts.claims import exact_claims, keeps
from signedpacts.errors import BadWidth
from signedpacts.rows import combine, difference
from signedpacts.stairs import remainder, steps_of


def check_widths(rows, width):
    """Raises BadWidth for the first row with another number of entries."""
    for row in rows:
        if len(row) != width:
            raise BadWidth(len(row))


class CountSet:
    """A set of rows of one width: empty, or a row plus all combinations of a staircase."""

    def __init__(self, width, *, start=None, steps=()):
        least = None
        stairs = ()
        if start is not None:
            check_widths([start, *steps], width)
            stairs = steps_of(steps, width)
            least, _ = remainder(start, stairs)
        self.width = width
        self.start = least
        self.steps = stairs

    @classmethod
    def around(cls, width, rows):
        """The least set that contains all the rows."""
        check_widths(rows, width)
        if len(rows) == 0:
            return cls(width)
        return cls(width, start=rows[0], steps=[difference(row, rows[0]) for row in rows[1:]])

    @property
    def rank(self):
        """The number of steps."""
        return len(self.steps)

    def _check_width(self, width):
        """Raises BadWidth if the width is not the one of this set."""
        if width != self.width:
            raise BadWidth(width)

    def __add__(self, other):
        self._check_width(other.width)
        if self.start is None or other.start is None:
            return CountSet(self.width)
        start = combine([self.start, other.start], [1, 1], width=self.width)
        return CountSet(self.width, start=start, steps=[*self.steps, *other.steps])

    def __or__(self, other):
        self._check_width(other.width)
        if self.start is None:
            return CountSet(self.width, start=other.start, steps=other.steps)
        if other.start is None:
            return CountSet(self.width, start=self.start, steps=self.steps)
        between = difference(other.start, self.start)
        return CountSet(self.width, start=self.start, steps=[*self.steps, *other.steps, between])

    def __mul__(self, other):
        if other == 0:
            return CountSet(self.width, start=[0] * self.width)
        if self.start is None:
            return CountSet(self.width)
        # The steps stay as they are, since combinations of them add up to combinations of them.
        start = combine([self.start], [other], width=self.width)
        return CountSet(self.width, start=start, steps=self.steps)

    def __contains__(self, row):
        return self.coordinates(row) is not None

    def __eq__(self, other):
        return (isinstance(other, CountSet) and self.width == other.width and self.start == other.start
                and self.steps == other.steps)

    def within(self, other):
        """True if both have the same width and every row of this set belongs to the other one."""
        return self.width == other.width and (self | other) == other

    def rounds(self):
        """The least set that contains the row of zeros and all sums of any number of rows of this set."""
        steps = self.steps if self.start is None else [*self.steps, self.start]
        return CountSet(self.width, start=[0] * self.width, steps=steps)

    def coordinates(self, row):
        """The factors with which the row is the start plus the combination of the steps, or None."""
        if self.start is None or len(row) != self.width:
            return None
        rest, factors = remainder(difference(row, self.start), self.steps)
        return None if any(rest) else factors

    def holds(self, claim):
        """True if every row of the set keeps the claim."""
        coefs, _, modulus = claim
        self._check_width(len(coefs))
        if self.start is None:
            return True
        return keeps(self.start, claim) and all([keeps(step, (coefs, 0, modulus)) for step in self.steps])

    def claims(self):
        """Claims that just the rows of the set keep."""
        if self.start is None:
            return (((0,) * self.width, 1, 0),)
        return exact_claims(self.start, self.steps)
