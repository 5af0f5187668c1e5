"""Plain reckonings with duties: histories one by one, and guarding by trying out all moves."""
import itertools

from signedpacts.machines import Machine
from signedpacts.pacts import Choice, Endless, Event, Rounds, Times, Transfer
from signedpacts.runs import history_of, runs

NO_MARKS = ("", "a", "AB", "1", " ", "world", "d")

# Pacts whose histories are many, so that duties matter.
RICH_PACTS = ("a[b(D | E)]", "a[D], b[E]", "a(D, b(E | .) | E, b(D | .))", "a[D, b(E | .)]", "a(D | E), b(D | E), a(D | E)",
              "b[a[D], E]", "a[b(D, D | E)]", "b(D | .), b(E | .), a[b(D | E)]", "3(a(D | E))", "a[D, [E]], b(D | E)")


def some_machine(chance, letters, many=4):
    """A machine with at most that many rows; most of its entries are numbers, and most of its states are good."""
    states = range(chance.randint(0, many))
    rows = [[chance.choice([None, *states, *states]) if states else None for _ in letters] for _ in states]
    return Machine(letters, rows, [state for state in states if chance.random() < 0.7])


def kept_marks(text, letters):
    return "".join(mark for mark in text if mark in letters)


def histories_of(pact, letters, most, many=3000):
    """The histories of done plays in which at most `most` rounds are named."""
    return {kept_marks(history_of(told), letters)
            for _, told, done in itertools.islice(runs(pact, most=most), many) if done}


def by_parts(pact, letters):
    """The machine of the histories, as [52] reckons it part by part."""
    empty = Machine(letters, [[None] * len(letters)], [0])
    whole = empty
    for part in pact:
        if isinstance(part, Event) and part.mark in letters:
            here = Machine(letters, [[1 if mark == part.mark else None for mark in letters], [None] * len(letters)], [1])
        elif isinstance(part, (Transfer, Event)):
            here = empty
        elif isinstance(part, Choice):
            here = Machine(letters, [])
            for option in part.options:
                here = here | by_parts(option, letters)
        elif isinstance(part, Rounds):
            here = by_parts(part.body, letters).rounds()
        elif isinstance(part, Endless):
            here = Machine(letters, [])
        else:
            here = empty
            for _ in range(part.count):
                here = here >> by_parts(part.body, letters)
        whole = whole >> here
    return whole


def guards(row, state, party, duty, most, known):
    """True if the party can guard the duty from a state (None behind a text that cannot be read) through the row.

    All moves are tried out; rounds without a limit up to `most`.
    """
    row = tuple(row)
    while row and isinstance(row[0][0], (Transfer, Event, Times)):
        part, row = row[0][0], row[1:]
        if isinstance(part, Times):
            row = tuple((inner, None) for _ in range(part.count) for inner in part.body) + row
        elif isinstance(part, Event) and part.mark in duty.letters and state is not None:
            state = duty.rows[state][duty.letters.index(part.mark)]
    if not row:
        return state in duty.good
    (part, limit), behind = row[0], row[1:]
    if isinstance(part, Endless):
        return True
    key = (tuple((one.text, left) for one, left in row), state)
    if key not in known:
        if isinstance(part, Choice):
            rows = [tuple((inner, None) for inner in option) + behind for option in part.options]
        else:
            numbers = range(1, (most if limit is None else min(most, limit)) + 1)
            body = tuple((inner, None) for inner in part.body)
            rows = [behind, *(body + ((part, number - 1),) + behind for number in numbers)]
        told = [guards(one, state, party, duty, most, known) for one in rows]
        known[key] = any(told) if part.owner == party else all(told)
    return known[key]


def state_of(play, duty):
    """The state of a duty behind what has happened in a play."""
    return duty.after(kept_marks(history_of(play.happened()), duty.letters))
