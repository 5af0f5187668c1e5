"""The sums and counts that hold at the end of every done play ([49], [50])."""
from signedpacts.countsets import CountSet
from signedpacts.errors import BadMark, BadParty
from signedpacts.parties import MARKS, PARTIES
from signedpacts.rows import added


def check_columns(parties, marks):
    """Raises BadParty or BadMark for the first character that is no party or no mark."""
    for party in parties:
        if party not in PARTIES:
            raise BadParty(party)
    for mark in marks:
        if mark not in MARKS:
            raise BadMark(mark)


def row_of_transfer(payer, payee, amount, parties, marks):
    """The row of one transfer."""
    coins = {payee: amount, payer: -amount}
    return tuple([coins.get(party, 0) for party in parties] + [0 for _ in marks])


def row_of_event(mark, parties, marks):
    """The row of one event."""
    return tuple([0 for _ in parties] + [1 if one == mark else 0 for one in marks])


def row_of_happening(text, parties, marks):
    """The row of one happening."""
    if len(text) == 1:
        return row_of_event(text, parties, marks)
    return row_of_transfer(text[0], text[1], int(text[2:]), parties, marks)


def row_of_part(part, parties, marks):
    """The row of a transfer or an event."""
    return row_of_happening(part.text, parties, marks)


def empty_row(parties, marks):
    """The row of no happening."""
    return tuple([0 for _ in parties] + [0 for _ in marks])


def balance_row(happenings, *, parties, marks):
    """What the parties received minus what they paid, and behind it how often the marks happened."""
    check_columns(parties, marks)
    rows = [row_of_happening(text, parties, marks) for text in happenings]
    return added([empty_row(parties, marks), *rows])


def set_of_part(part, parties, marks):
    """The least set of the rows of a part."""
    width = len(parties) + len(marks)
    if part.KIND in ("transfer", "event"):
        return CountSet(width, start=row_of_part(part, parties, marks))
    if part.KIND == "endless":
        return CountSet(width)
    if part.KIND == "choice":
        found = CountSet(width)
        for option in part.options:
            found = found | set_of_pact(option, parties, marks)
        return found
    inner = set_of_pact(part.body, parties, marks)
    return inner * part.count if part.KIND == "times" else inner.rounds()


def set_of_pact(pact, parties, marks):
    """The least set of the rows of a pact: the sum of those of its parts."""
    found = CountSet(len(parties) + len(marks), start=empty_row(parties, marks))
    for part in pact.parts:
        found = found + set_of_part(part, parties, marks)
    return found


def balances(pact, *, parties, marks):
    """The least count set that contains the balance rows of all done plays."""
    check_columns(parties, marks)
    return set_of_pact(pact, parties, marks)
