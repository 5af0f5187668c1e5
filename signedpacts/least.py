"""Least sets of names, and the derivations that tell them ([22], [23])."""
from signedpacts.bases import Bases, base_totals, change_by
from signedpacts.claims import keeps
from signedpacts.countsets import CountSet
from signedpacts.derivations import Derivation
from signedpacts.errors import BadWidth
from signedpacts.stairs import is_combination, with_row
from signedpacts.ways import grown, path_to, ways_from


def least_set(grammar, name):
    """The least set that contains all sums of the name."""
    grammar.rules_of(name)
    bases = Bases(grammar)
    if name not in bases.numbers:
        return CountSet(grammar.width)
    totals = base_totals(bases)
    steps = []
    for met in ways_from(bases, name):
        for number in bases.live_rules(met):
            steps, _ = with_row(steps, change_by(grammar, totals, number), grammar.width)
    return CountSet(grammar.width, start=totals[name], steps=steps)


def telling(grammar, name):
    """Yields derivations of the name, each outside of the least set around those before it."""
    grammar.rules_of(name)
    bases = Bases(grammar)
    if name in bases.numbers:
        ways = ways_from(bases, name)
        yield Derivation(grammar, grown(bases, [(bases.numbers[name], None)]).steps)
        totals = base_totals(bases)
        # The rules of a way's upper part come first. So the row of a derivation through the way differs
        # from a row in the least set so far only by the change that the last rule makes.
        steps = []
        for met in ways:
            for number in bases.live_rules(met):
                change = change_by(grammar, totals, number)
                if not is_combination(change, steps):
                    steps, _ = with_row(steps, change, grammar.width)
                    yield Derivation(grammar, grown(bases, path_to(bases, ways, number)).steps)


def breaking(grammar, name, claim):
    """A derivation of the name whose row breaks the claim, or None."""
    grammar.rules_of(name)
    width = len(claim[0])
    if width != grammar.width:
        raise BadWidth(width)
    for derivation in telling(grammar, name):
        if not keeps(derivation.total, claim):
            return derivation
    return None
