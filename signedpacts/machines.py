"""Machines: sets of texts over some letters ([3] to [8])."""
from signedpacts.errors import BadLetters, BadRow, BadState, LettersDiffer
from signedpacts.joins import concatenated, paired, repeated
from signedpacts.normal import lasting, normal_form


def check_letters(letters):
    """Raises BadLetters if there is no letter or a character occurs twice."""
    if len(letters) == 0 or len(set(letters)) < len(letters):
        raise BadLetters(letters)


def check_rows(rows, width):
    """Raises BadRow for the first row that does not fit the number of letters and of rows."""
    for state, row in enumerate(rows):
        if len(row) != width:
            raise BadRow(state)
        for entry in row:
            if entry is not None and not 0 <= entry < len(rows):
                raise BadRow(state)


def check_states(states, many):
    """Raises BadState for the first number that is not from 0 to `many` minus 1."""
    for state in states:
        if not 0 <= state < many:
            raise BadState(state)


def states_with(rows, good, length):
    """For each number of letters up to `length` the states from which just so many lead to a good state.

    They are given as one list for each number, with True or False for each state.
    """
    ends = set(good)
    found = [[state in ends for state in range(len(rows))]]
    for _ in range(length):
        last = found[-1]
        found.append([any([entry is not None and last[entry] for entry in row]) for row in rows])
    return found


class Machine:
    """A set of texts over some letters, in normal form."""

    def __init__(self, letters, rows, good=None):
        check_letters(letters)
        check_rows(rows, len(letters))
        ends = list(range(len(rows))) if good is None else list(good)
        check_states(ends, len(rows))
        new_rows, new_good = normal_form(rows, ends)
        self.letters = letters
        self.rows = new_rows
        self.good = new_good

    def _beside(self, other):
        """The rows that read both machines at once, and for each row whether the one and the other accept."""
        if self.letters != other.letters:
            raise LettersDiffer()
        rows, pairs = paired(self.rows, other.rows, len(self.letters))
        mine = set(self.good)
        its = set(other.good)
        return rows, [(left in mine, right in its) for left, right in pairs]

    def __and__(self, other):
        rows, ends = self._beside(other)
        return Machine(self.letters, rows, [at for at, (mine, its) in enumerate(ends) if mine and its])

    def __or__(self, other):
        rows, ends = self._beside(other)
        return Machine(self.letters, rows, [at for at, (mine, its) in enumerate(ends) if mine or its])

    def __sub__(self, other):
        rows, ends = self._beside(other)
        return Machine(self.letters, rows, [at for at, (mine, its) in enumerate(ends) if mine and not its])

    def __invert__(self):
        # One more state takes all texts that cannot be read otherwise.
        more = len(self.rows)
        rows = [[more if entry is None else entry for entry in row] for row in self.rows]
        ends = set(self.good)
        good = [state for state in range(more + 1) if state not in ends]
        return Machine(self.letters, [*rows, [more] * len(self.letters)], good)

    def __rshift__(self, other):
        if self.letters != other.letters:
            raise LettersDiffer()
        rows, good = concatenated(self.rows, self.good, other.rows, other.good, len(self.letters))
        return Machine(self.letters, rows, good)

    def __contains__(self, text):
        return self.after(text) in self.good

    def __eq__(self, other):
        return (isinstance(other, Machine) and self.letters == other.letters and self.rows == other.rows
                and self.good == other.good)

    def after(self, text):
        """The state after the text, or None if the text cannot be read."""
        state = 0 if self.rows else None
        for character in text:
            at = self.letters.find(character)
            if state is None or at < 0:
                return None
            state = self.rows[state][at]
        return state

    def first_text(self):
        """The first text that is accepted, or None."""
        if not self.good:
            return None
        # States have the order of their first texts, so the first good one is met by the answer.
        came = {0: None}
        for state, row in enumerate(self.rows):
            for letter, entry in zip(self.letters, row):
                if entry is not None and entry not in came:
                    came[entry] = (state, letter)
        found = []
        step = came[self.good[0]]
        while step is not None:
            state, letter = step
            found.append(letter)
            step = came[state]
        return "".join(found[::-1])

    def how_many(self, length):
        """The number of accepted texts with just so many characters."""
        ways = [[entry for entry in row if entry is not None] for row in self.rows]
        counts = [1 if state == 0 else 0 for state in range(len(ways))]
        for _ in range(length):
            further = [0 for _ in ways]
            for count, entries in list(zip(counts, ways)):
                if count:
                    for target in entries:
                        further[target] = further[target] + count
            counts = further
        return sum([counts[state] for state in self.good])

    def texts(self, length):
        """Yields the accepted texts with just so many characters, in order."""
        able = states_with(self.rows, self.good, length)
        waiting = [("", 0)] if self.rows and able[length][0] else []
        while waiting:
            text, state = waiting.pop()
            rest = length - len(text)
            if rest == 0:
                yield text
            else:
                # What is added last is taken first.
                for letter, entry in reversed(list(zip(self.letters, self.rows[state]))):
                    if entry is not None and able[rest - 1][entry]:
                        waiting.append((text + letter, entry))

    def rounds(self):
        """The machine that accepts every text made of any number of accepted texts, none too."""
        rows, good = repeated(self.rows, self.good, len(self.letters))
        return Machine(self.letters, rows, good)

    def beginnings(self):
        """The machine that accepts all beginnings of accepted texts."""
        return Machine(self.letters, self.rows)

    def unending(self):
        """The machine that accepts the beginnings of endless sequences, all of whose beginnings are accepted."""
        lasts = lasting(self.rows, self.good)
        if not self.rows or not lasts[0]:
            return Machine(self.letters, [])
        rows = [[entry if entry is not None and lasts[entry] else None for entry in row] for row in self.rows]
        return Machine(self.letters, rows, [state for state, lasts_on in enumerate(lasts) if lasts_on])
