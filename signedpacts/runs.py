"""All plays of a pact with large purses, one by one, and what a play needs ([41] to [43])."""
from signedpacts.parties import check_party
from signedpacts.rests import carried_out, in_front, moved, owner_of


def texts_of(chain):
    """The members of a chain of pairs (member, chain of the earlier members), the earliest one first."""
    found = []
    rest = chain
    while rest is not None:
        member, rest = rest
        found.append(member)
    return tuple(found[::-1])


def up_to_move(chain, happenings):
    """The chain and the happenings when no member can be carried out any more without a move."""
    rest = chain
    told = happenings
    while rest is not None:
        part, limit, _ = rest
        if owner_of(part, limit) is not None or part.KIND == "endless":
            break
        if part.KIND in ("transfer", "event"):
            told = (part.text, told)
        rest = carried_out(rest)
    return rest, told


def numbers_of(part, limit, most):
    """The word and the numbers of the moves that are made for a member, in descending order."""
    if part.KIND == "choice":
        return "take", list(range(len(part.options)))[::-1]
    return "rounds", list(range(most + 1))[::-1] if limit is None else [limit]


def runs(pact, *, most=1):
    """Yields the plays in which no number of rounds above `most` is named: (moves, happenings, done)."""
    # Moves and happenings are kept as chains, too: the plays have their beginnings in common.
    waiting = [(in_front(pact.parts, None), None, None, False)]
    while waiting:
        chain, moves, happenings, is_cut = waiting.pop()
        chain, happenings = up_to_move(chain, happenings)
        if is_cut or chain is None or owner_of(chain[0], chain[1]) is None:
            yield texts_of(moves), texts_of(happenings), chain is None
        else:
            part, limit, _ = chain
            word, numbers = numbers_of(part, limit, most)
            # What is added last is taken first.
            for number in numbers:
                ends = part.KIND == "endless" and number == 0
                rest = chain if ends else moved(chain, number)
                waiting.append((rest, ((word, number), moves), happenings, ends))


def run_need(happenings, party, *, needed=0):
    """The least purse with which the party pays all its transfers and has the needed sum at the end."""
    check_party(party)
    if needed is None:
        return None
    purse = needed
    for text in reversed(list(happenings)):
        if len(text) > 1 and text[0] == party:
            purse = purse + int(text[2:])
        elif len(text) > 1 and text[1] == party:
            purse = max(0, purse - int(text[2:]))
    return purse


def history_of(happenings):
    """The marks among the happenings, as a text."""
    return "".join([text for text in happenings if len(text) == 1])
