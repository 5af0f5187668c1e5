"""Coins in purses, and the errors for purses that cannot be ([38])."""
from signedpacts.errors import BadAmount
from signedpacts.parties import check_party


def check_coins(table):
    """Raises BadAmount for the first number of coins below 0 in a dict."""
    for coins in table.values():
        if coins < 0:
            raise BadAmount(coins)


def check_purses(purses):
    """Raises BadParty for the first key that is no party, then BadAmount for the first number below 0."""
    for party in purses:
        check_party(party)
    check_coins(purses)
