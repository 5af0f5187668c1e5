"""Plain reckonings with debts: sets of failing parties tried out one by one, with fractions."""
import itertools
from fractions import Fraction

PARTIES = "abcdef"
PAIRS = [one + other for one in PARTIES for other in PARTIES if one != other]

NO_PAIRS = ("", "a", "aa", "abc", "ag", "Ab", "a ", "1a", "ab5")


def some_debts(chance, most=30):
    """Debts among some of the parties; many small ones, or very different ones; some of them 0."""
    parties = chance.sample(PARTIES, chance.randint(2, 6))
    pairs = [pair for pair in PAIRS if pair[0] in parties and pair[1] in parties]
    pairs = chance.sample(pairs, chance.randint(0, min(most, len(pairs))))
    greatest = chance.choice([1, 4, 20, 10 ** 60])
    return {pair: chance.choice([0, chance.randint(0, greatest), chance.randint(0, greatest), chance.randint(0, 10)])
            for pair in pairs}


def solve(rows):
    """The only solution of the equations, each with its result as the last entry; None without just one."""
    rows = [list(map(Fraction, row)) for row in rows]
    for at in range(len(rows)):
        pivot = next((place for place in range(at, len(rows)) if rows[place][at] != 0), None)
        if pivot is None:
            return None
        rows[at], rows[pivot] = rows[pivot], rows[at]
        rows[at] = [entry / rows[at][at] for entry in rows[at]]
        for place in range(len(rows)):
            if place != at:
                rows[place] = [entry - rows[place][at] * above for entry, above in zip(rows[place], rows[at])]
    return [row[-1] for row in rows]


def owes(debts, party):
    return sum(coins for pair, coins in debts.items() if pair[0] == party)


def has(debts, purses, paid, party):
    """What a party has if all pay what `paid` says."""
    return purses[party] + sum(Fraction(coins) * paid[pair[0]] / owes(debts, pair[0])
                               for pair, coins in debts.items() if pair[1] == party and coins > 0)


def paid_if(debts, purses, failing):
    """What each party pays if the failing ones pay all that they have, and the others all that they owe; or None."""
    rows = []
    for party in failing:
        row = [int(party == one) - (Fraction(debts.get(one + party, 0), owes(debts, one)) if owes(debts, one) else 0)
               for one in failing]
        rows.append([*row, purses[party] + sum(debts.get(one + party, 0) for one in PARTIES if one not in failing)])
    solved = solve(rows)
    if solved is None:
        return None
    paid = {party: Fraction(owes(debts, party)) for party in purses}
    paid.update(zip(failing, solved))
    return paid


def greatest_payments(debts, purses):
    """The greatest ones of all payments in which each party pays what it owes, or else all that it has."""
    found = []
    for many in range(len(purses) + 1):
        for failing in itertools.combinations(purses, many):
            paid = paid_if(debts, purses, failing)
            if paid is not None and all(paid[party] == min(owes(debts, party), has(debts, purses, paid, party))
                                        for party in purses):
                found.append(paid)
    best = max(found, key=lambda paid: sum(paid.values()))
    assert all(paid[party] <= best[party] for paid in found for party in purses)
    return best


def waves_of(debts, purses):
    """Who fails one after the other, as [68] says it."""
    waves, before = [], ""
    while True:
        paid = paid_if(debts, purses, before)
        wave = "".join(party for party in PARTIES if party in purses and party not in before
                       and has(debts, purses, paid, party) < owes(debts, party))
        if not wave:
            return tuple(waves)
        waves.append(wave)
        before += wave
