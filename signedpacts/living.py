"""Live names and base derivations ([21])."""
from signedpacts.bases import Bases, first_rules
from signedpacts.derivations import Derivation
from signedpacts.errors import NoSum
from signedpacts.growth import Growth


def live_names(grammar):
    """The names that have a derivation, in the order of the grammar's names."""
    found = first_rules(grammar)
    return tuple([name for name in grammar.names if name in found])


def base_derivation(grammar, name):
    """A derivation of the name with the least height."""
    grammar.rules_of(name)
    bases = Bases(grammar)
    if name not in bases.numbers:
        raise NoSum(name)
    growth = Growth(bases)
    growth.put_bases([name])
    return Derivation(grammar, growth.steps)
