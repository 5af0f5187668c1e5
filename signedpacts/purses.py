"""The least purses with which a party surely gets through ([44], [45]), and pacts for given needs ([48])."""
from signedpacts.errors import BadAmount, PlayOver
from signedpacts.needs import Need
from signedpacts.pacts import Choice, Endless, Pact, Rounds, Transfer
from signedpacts.parties import check_party


def unchanged():
    """The need that gives k for every k."""
    return Need(0, ((0, None),), None)


def transfer_need(part, party):
    """The need of a transfer."""
    if part.payer == party:
        return Need(part.amount, ((0, None),), None)
    return Need(0, ((part.amount, None),), None) if part.payee == party else unchanged()


def choice_need(part, party):
    """The need of a choice."""
    need = body_need(part.options[0], party)
    for option in part.options[1:]:
        other = body_need(option, party)
        need = need | other if part.owner == party else need & other
    return need


def part_need(part, party):
    """The need of a part."""
    if part.KIND == "transfer":
        return transfer_need(part, party)
    if part.KIND == "choice":
        return choice_need(part, party)
    if part.KIND == "event":
        return unchanged()
    need = body_need(part.body, party)
    if part.KIND == "rounds":
        return need.mine() if part.owner == party else need.theirs()
    return need.endless() if part.KIND == "endless" else need * part.count


def body_need(pact, party):
    """The need of a pact: that of its parts, one in front of the other."""
    need = unchanged()
    for part in pact.parts:
        need = need >> part_need(part, party)
    return need


def need_of(pact, party):
    """For each needed sum the least purse with which the party can surely get through the pact."""
    check_party(party)
    return body_need(pact, party)


def member_purse(part, limit, party, behind):
    """The least purse in front of a member, where `behind` is the one behind it."""
    if limit is None:
        return part_need(part, party)(behind)
    need = body_need(part.body, party)
    if part.KIND == "endless":
        return need.highest(0, limit)
    return need.lowest(behind, limit) if part.owner == party else need.highest(behind, limit)


def purse_for(members, party, needed):
    """The least purse in front of the members of a row."""
    purse = needed
    for part, limit in reversed(list(members)):
        purse = member_purse(part, limit, party, purse)
    return purse


def least_purse(play, party, *, needed=0):
    """The least purse with which the party can surely get through the play from here on."""
    if play.turn == "over":
        raise PlayOver()
    check_party(party)
    if needed is not None and needed < 0:
        raise BadAmount(needed)
    return purse_for(play.row(), party, needed)


def always(sum_needed):
    """A pact of which the party a needs just this sum, whatever is needed behind it."""
    return Pact([Endless(Pact([Transfer("a", "b", sum_needed), Transfer("b", "a", sum_needed)]))])


def without_rises(low, many):
    """A part of which a needs min(k, low) for k up to low + many, and k - many for greater ones."""
    smaller = Choice("a", [Pact([]), always(low)])
    return Choice("b", [Pact([smaller]), Pact([Transfer("b", "a", many)])])


def at_most_part(low):
    """A part of which a needs min(k, low), but None for None."""
    # The rounds lower every number down to `low`, and each of them takes one coin off.
    return Rounds("a", Pact([without_rises(low, 1)]))


def parts_for_rises(rises):
    """Parts of which a needs the number of rises below k, for every number k."""
    parts = []
    flat = 0
    for low, high in rises:
        if low > flat:
            parts.append(without_rises(flat, low - flat))
        flat = high
    # The last parts come first into play, so they leave the lower numbers as they are.
    return parts if flat is None else [*parts, at_most_part(flat)]


def pact_for(need):
    """A pact of the parties a and b whose need for a is the given one."""
    if need.start is None:
        return Pact([Rounds("b", Pact([Transfer("a", "b", 1)]))])
    pact = Pact([Transfer("a", "b", need.start), *parts_for_rises(need.rises)])
    if need.never is None:
        return pact
    return Pact([Choice("a", [pact, always(need.never)])])
