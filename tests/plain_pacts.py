"""Plain reckonings with pacts: their plays one by one, and sums that are tried out."""
from signedpacts.pacts import Choice, Endless, Event, Pact, Rounds, Times, Transfer
from signedpacts.plays import Play

RICH = 10 ** 100


def some_part(chance, weight, parties, marks, endless):
    """A part with at most this weight, from 1 on."""
    kind = chance.choice(["transfer", "event", "choice", "rounds", "times", "endless" if endless else "choice"])
    if weight < 2 or kind in ("transfer", "event"):
        if kind == "event" or len(parties) < 2:
            return Event(chance.choice(marks))
        payer, payee = chance.sample(parties, 2)
        return Transfer(payer, payee, chance.randint(0, 5))
    if kind == "choice":
        many = chance.choice([2, 2, 3])
        return Choice(chance.choice(parties), [some_pact(chance, (weight - 1) // many, parties, marks, endless)
                                               for _ in range(many)])
    if kind == "times":
        count = chance.randint(0, 3)
        return Times(count, some_pact(chance, (weight - 1) // max(1, count), parties, marks, endless))
    body = some_pact(chance, weight - 1, parties, marks, endless)
    return Endless(body) if kind == "endless" else Rounds(chance.choice(parties), body)


def some_pact(chance, weight, parties="abc", marks="DE", endless=True):
    """A pact with at most this weight."""
    parts = []
    while weight > 0 and chance.random() < 0.8:
        parts.append(some_part(chance, chance.randint(1, weight), parties, marks, endless))
        weight -= parts[-1].weight
    return Pact(parts)


def plays(row, most, moves=(), told=()):
    """All plays of a row without purses: (moves, happenings, done), in the order of their moves."""
    if not row:
        return [(moves, told, True)]
    (part, limit), behind = row[0], row[1:]
    if isinstance(part, (Transfer, Event)):
        return plays(behind, most, moves, (*told, part.text))
    if isinstance(part, Times):
        return plays([(inner, None) for _ in range(part.count) for inner in part.body] + behind, most, moves, told)
    found = []
    if isinstance(part, Choice):
        for number, option in enumerate(part.options):
            found += plays([(inner, None) for inner in option] + behind, most, (*moves, ("take", number)), told)
        return found
    for number in range(most + 1) if limit is None else [limit]:
        now = moves if limit == 0 else (*moves, ("rounds", number))
        if number > 0:
            rest = [(inner, None) for inner in part.body] + [(part, number - 1)] + behind
            found += plays(rest, most, now, told)
        elif isinstance(part, Endless):
            found.append((now, told, False))
        else:
            found += plays(behind, most, now, told)
    return found


def plays_of(pact, most=1):
    return plays([(part, None) for part in pact], most)


def moves_here(play, most):
    """The moves that are allowed, rounds without a limit from 0 to `most`."""
    part, limit = play.row()[0]
    if isinstance(part, Choice):
        return [("take", number) for number in range(len(part.options))]
    return [("rounds", number) for number in range(min(most, most if limit is None else limit) + 1)]


def ends_of(play, answer, most, many=400):
    """The ends of a play whose other moves are tried out, where `answer` may give a move instead."""
    waiting, found = [play.twin()], []
    while waiting and len(found) < many:
        here = waiting.pop()
        if here.turn == "over":
            found.append(here)
            continue
        given = answer(here)
        for move in moves_here(here, most) if given is None else [given]:
            further = here.twin()
            further.move(move)
            waiting.append(further)
    return found


def gets_through(play, party, needed):
    """True if the party gets through a play that is over, as [44] says."""
    if play.loser == party:
        return False
    return play.outcome != "done" or (needed is not None and play.coins(party) >= needed)


def rich_play(pact, **purses):
    """A play in which all have many coins, apart from those whose coins are given."""
    return Play(pact, {party: purses.get(party, RICH) for party in "abcdef"})


def values(f, k, many):
    """The values k, f(k), f(f(k)) and so on, until one comes again or there are many."""
    found = [k]
    while len(found) < many and (len(found) < 2 or found[-1] != found[-2]) and (k is None or (found[-1] or 0) < 10 ** 6):
        found.append(f(found[-1]))
    return found


def least_of(found):
    return min(found, key=lambda k: (k is None, k or 0))


def greatest_of(found):
    return max(found, key=lambda k: (k is None, k or 0))


def part_purse(part, party, k):
    """The least purse for a part, as [44] says, by going through the rounds one by one."""
    if isinstance(part, Transfer):
        if k is None or party not in (part.payer, part.payee):
            return k
        return k + part.amount if part.payer == party else max(0, k - part.amount)
    if isinstance(part, Event):
        return k
    if isinstance(part, Choice):
        found = [pact_purse(option, party, k) for option in part.options]
        return least_of(found) if part.owner == party else greatest_of(found)
    if isinstance(part, Times):
        for _ in range(part.count):
            k = pact_purse(part.body, party, k)
        return k
    found = values(lambda sum: pact_purse(part.body, party, sum), 0 if isinstance(part, Endless) else k, 60)
    if isinstance(part, Rounds) and part.owner == party:
        return least_of(found)
    return None if len(found) == 60 else greatest_of(found)


def pact_purse(pact, party, k):
    for part in list(pact)[::-1]:
        k = part_purse(part, party, k)
    return k
