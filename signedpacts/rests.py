"""What is left of a pact while it is carried out ([39]).

The row is kept as a chain, so that an earlier one stays as it is: None, or a tuple of the part of the first
member, its limit, and the chain of the members behind it.
"""
from signedpacts.pacts import Times


def in_front(parts, behind):
    """The chain of the parts, without limits, in front of another chain."""
    chain = behind
    for part in reversed(list(parts)):
        chain = (part, None, chain)
    return chain


def members_of(chain):
    """The members of the row, pairs of a part and a limit."""
    found = []
    rest = chain
    while rest is not None:
        part, limit, rest = rest
        found.append((part, limit))
    return tuple(found)


def owner_of(part, limit):
    """Whose move a member waits for, a party or "world"; None if it waits for none."""
    if part.KIND == "choice":
        return part.owner
    if limit == 0:
        return None
    if part.KIND == "rounds":
        return part.owner
    return "world" if part.KIND == "endless" else None


def carried_out(chain):
    """The chain after its first member, which waits for no move and is no endless rounds."""
    part, _, behind = chain
    if part.KIND != "times" or part.count == 0:
        return behind
    rest = behind if part.count == 1 else (Times(part.count - 1, part.body), None, behind)
    return in_front(part.body.parts, rest)


def is_allowed(part, limit, move):
    """True if the move is one that the member waits for."""
    if not isinstance(move, tuple) or len(move) != 2:
        return False
    word, number = move
    if not isinstance(word, str) or not isinstance(number, int) or isinstance(number, bool) or number < 0:
        return False
    if part.KIND == "choice":
        return word == "take" and number < len(part.options)
    return word == "rounds" and (limit is None or number <= limit)


def moved(chain, number):
    """The chain after a move with this number for its first member, which does not end endless rounds."""
    part, _, behind = chain
    if part.KIND == "choice":
        return in_front(part.options[number].parts, behind)
    if number == 0:
        return behind
    return in_front(part.body.parts, (part, number - 1, behind))
