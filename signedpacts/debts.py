"""Debts: what parties owe each other ([66])."""
from signedpacts.coins import check_coins
from signedpacts.errors import BadPair
from signedpacts.parties import PARTIES


def is_pair(text):
    """True if the text is two different parties."""
    return len(text) == 2 and text[0] != text[1] and text[0] in PARTIES and text[1] in PARTIES


def check_pair(pair):
    """Raises BadPair if the text is not two different parties."""
    if not is_pair(pair):
        raise BadPair(pair)


def check_debts(debts):
    """Raises BadPair for the first key that is no pair, then BadAmount for the first number below 0."""
    for pair in debts:
        check_pair(pair)
    check_coins(debts)


def in_order(debts):
    """The debts without zeros, in alphabetical order."""
    return {pair: debts[pair] for pair in sorted(debts) if debts[pair] != 0}


def owed(happenings):
    """The debts that arise if every transfer among the happenings is owed instead of paid."""
    debts = {}
    for text in happenings:
        if len(text) > 1:
            debts[text[:2]] = debts.get(text[:2], 0) + int(text[2:])
    return in_order(debts)


def net(debts):
    """For each of the six parties what is owed to it minus what it owes."""
    check_debts(debts)
    sums = {party: 0 for party in PARTIES}
    for pair, coins in debts.items():
        sums[pair[0]] = sums[pair[0]] - coins
        sums[pair[1]] = sums[pair[1]] + coins
    return tuple([sums[party] for party in PARTIES])
