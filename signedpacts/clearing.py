"""Clearing: how much everybody pays if all debts fall due at once ([68], [69])."""
from math import gcd, lcm

from signedpacts.coins import check_purses
from signedpacts.debts import check_debts, in_order
from signedpacts.errors import NoPurse
from signedpacts.parties import PARTIES, check_party


def check_clearing(debts, purses):
    """Raises the first error of debts and purses that cannot be cleared."""
    check_debts(debts)
    check_purses(purses)
    named = [party for pair, coins in debts.items() if coins > 0 for party in pair]
    for party in PARTIES:
        if party in named and party not in purses:
            raise NoPurse(party)


def owed_by(debts, party):
    """What the party owes altogether."""
    return sum([coins for pair, coins in debts.items() if pair[0] == party])


def without_common(row):
    """The row without the factor that all its entries have in common."""
    common = 0
    for entry in row:
        common = gcd(common, entry)
    return [entry // common for entry in row] if common > 1 else row


def without_entry(row, pivot_row, at):
    """The row, multiplied by a positive number, minus a multiple of the other one; its entry in the column is 0."""
    if row[at] == 0:
        return row
    return without_common([entry * pivot_row[at] - row[at] * other for entry, other in zip(row, pivot_row)])


def solved(rows):
    """Where just one entry of each row is left beside its last one, so that this entry times an unknown is the last.

    The unknowns are the parts that failing parties pay of their debts. When its turn comes, each row has a positive
    entry at its own place: of what a party owes, the others get no more than all, and parties that owe each other
    alone never fail all together.
    """
    done = [list(row) for row in rows]
    for at in range(len(rows)):
        pivot_row = done[at]
        done = [row if place == at else without_entry(row, pivot_row, at) for place, row in enumerate(done)]
    return [(row[at], row[-1]) for at, row in enumerate(done)]


def equation(debts, purses, failing, party):
    """The row that says that a party which fails pays all that it has."""
    row = [owed_by(debts, party) if one == party else -debts.get(one + party, 0) for one in failing]
    others = [debts.get(one + party, 0) for one in PARTIES if one not in failing]
    return [*row, purses[party] + sum(others)]


def parts_paid(debts, purses, failing):
    """The part of its debts that each party pays if the failing ones pay all that they have and the others pay all.

    These are numerators, and behind them the denominator that they have in common.
    """
    pairs = solved([equation(debts, purses, failing, party) for party in failing])
    whole = 1
    for divisor, _ in pairs:
        whole = lcm(whole, divisor)
    parts = {party: whole for party in PARTIES}
    for party, (divisor, value) in zip(failing, pairs):
        parts[party] = value * (whole // divisor)
    return parts, whole


def received(debts, parts, party):
    """What the party is paid, times the denominator of the parts."""
    return sum([coins * parts[pair[0]] for pair, coins in debts.items() if pair[1] == party])


def greatest_payments(debts, purses):
    """The parts that are paid in the greatest payments, their denominator, and the waves in which parties fail."""
    failing = ""
    waves = []
    while True:
        parts, whole = parts_paid(debts, purses, failing)
        wave = ""
        for party in [one for one in PARTIES if one in purses and one not in failing]:
            if purses[party] * whole + received(debts, parts, party) < owed_by(debts, party) * whole:
                wave = wave + party
        if wave == "":
            return parts, whole, tuple(waves)
        waves.append(wave)
        failing = failing + wave


def lowest_fraction(numerator, denominator):
    """The fraction in lowest terms, as a pair."""
    common = gcd(numerator, denominator)
    return numerator // common, denominator // common


def clear(debts, purses):
    """What each party pays, and the waves in which the parties fail."""
    check_clearing(debts, purses)
    plain = in_order(debts)
    parts, whole, waves = greatest_payments(plain, purses)
    paid = {party: lowest_fraction(owed_by(plain, party) * parts[party], whole) for party in purses}
    return paid, waves


def purse_to_pay(debts, purses, party):
    """The least purse with which the party pays all that it owes, where the other purses stay as they are."""
    check_clearing(debts, purses)
    check_party(party)
    if party not in purses:
        raise NoPurse(party)
    plain = in_order(debts)
    due = owed_by(plain, party)
    # What the others pay if the party pays all; with a purse that fills the gap, it does.
    coins = dict(purses)
    coins[party] = due
    parts, whole, _ = greatest_payments(plain, coins)
    return max(0, due - received(plain, parts, party) // whole)
