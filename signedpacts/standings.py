"""How a house stands: its purses, debts, draft and plays, and what deeds make of them ([88], [89], [91]).

Of a play are kept the row that is left, as a chain of its members, and the happenings. The chain is None if the play
is over, also if it is cut.
"""
from signedpacts.debts import check_pair
from signedpacts.drafts import Draft
from signedpacts.errors import BadAmount, BadMove, HouseError, NameTaken, NoDebt, NoPact, NoPurse, PlayOver
from signedpacts.errors import ShortPurse, WrongTurn
from signedpacts.plays import check_named
from signedpacts.rests import in_front, is_allowed, moved, owner_of
from signedpacts.runs import texts_of, up_to_move
from signedpacts.setoff import set_off


class Standing:
    """How a house stands. It is not changed any more: each deed makes a new one."""

    def __init__(self, held, owing, draft_so_far, plays_by_name):
        self.held = held
        self.owing = owing
        self.draft_so_far = draft_so_far
        self.plays_by_name = plays_by_name


def amended(standing, amendment):
    """Adds an amendment to the draft."""
    draft = Draft([*standing.draft_so_far.amendments, amendment])
    return Standing(standing.held, standing.owing, draft, standing.plays_by_name)


def after_transfers(standing, happenings):
    """The purses and debts after transfers; who has too few coins owes all of the amount."""
    held = dict(standing.held)
    owing = dict(standing.owing)
    for text in happenings:
        if len(text) > 1:
            payer, payee, amount = text[0], text[1], int(text[2:])
            if held[payer] < amount:
                owing[payer + payee] = owing.get(payer + payee, 0) + amount
            else:
                held[payer] = held[payer] - amount
                held[payee] = held[payee] + amount
    return held, owing


def carried_on(standing, name, chain, told):
    """Carries out the members of a play until a move is needed or it is over, behind the happenings told so far."""
    # No play fails, so what happens does not depend on the purses.
    rest, chained = up_to_move(chain, None)
    news = texts_of(chained)
    held, owing = after_transfers(standing, news)
    is_cut = rest is not None and owner_of(rest[0], rest[1]) is None
    plays = dict(standing.plays_by_name)
    plays[name] = (None if is_cut else rest, (*told, *news))
    return Standing(held, owing, standing.draft_so_far, plays)


def signed(standing, name):
    """Signs the pact of the draft and begins its play."""
    if name in standing.plays_by_name:
        raise NameTaken(name)
    pact = standing.draft_so_far.pact()
    check_named(pact, standing.held)
    return carried_on(standing, name, in_front(pact.parts, None), ())


def play_under(standing, name):
    """The chain and the happenings of a play; raises NoPact if there is none."""
    if name not in standing.plays_by_name:
        raise NoPact(name)
    return standing.plays_by_name[name]


def moved_on(standing, name, mover, move):
    """Makes a move in a play."""
    chain, told = play_under(standing, name)
    if chain is None:
        raise PlayOver()
    part, limit, _ = chain
    if owner_of(part, limit) != mover:
        raise WrongTurn()
    if not is_allowed(part, limit, move):
        raise BadMove(move)
    _, number = move
    is_cut = part.KIND == "endless" and number == 0
    return carried_on(standing, name, None if is_cut else moved(chain, number), told)


def paid(standing, pair, coins):
    """Pays coins of a debt."""
    check_pair(pair)
    if coins < 0:
        raise BadAmount(coins)
    for party in pair:
        if party not in standing.held:
            raise NoPurse(party)
    if standing.owing.get(pair, 0) < coins:
        raise NoDebt(pair)
    if standing.held[pair[0]] < coins:
        raise ShortPurse(pair[0])
    held = dict(standing.held)
    held[pair[0]] = held[pair[0]] - coins
    held[pair[1]] = held[pair[1]] + coins
    owing = dict(standing.owing)
    owing[pair] = owing.get(pair, 0) - coins
    return Standing(held, owing, standing.draft_so_far, standing.plays_by_name)


def after_deed(standing, deed):
    """How a house stands after a deed that is neither a paper nor a ruling."""
    if deed[0] == "amend":
        return amended(standing, deed[1])
    if deed[0] == "sign":
        return signed(standing, deed[1])
    if deed[0] == "move":
        return moved_on(standing, deed[1], deed[2], deed[3])
    if deed[0] == "pay":
        return paid(standing, deed[1], deed[2])
    rest, _ = set_off(standing.owing)
    return Standing(standing.held, rest, standing.draft_so_far, standing.plays_by_name)


def gone_through(standing, deeds, struck):
    """How a house stands after the deeds without the struck ones, and the ascending numbers of those that fall."""
    fallen = []
    now = standing
    for number, deed in enumerate(deeds):
        if number not in struck and deed[0] not in ("paper", "rule"):
            try:
                now = after_deed(now, deed)
            except HouseError:
                fallen.append(number)
    return now, fallen
