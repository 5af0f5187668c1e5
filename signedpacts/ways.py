"""Ways from a name down to the rules in its derivations ([22])."""
from signedpacts.growth import Growth


def ways_from(bases, name):
    """The names in the derivations of a live name, the nearest ones first, and for each how it is met.

    This is a pair of the number of a rule and the index of a use in it. It is None for the name itself.
    """
    ways = {name: None}
    order = [name]
    at = 0
    while at < len(order):
        here = order[at]
        for number in bases.live_rules(here):
            for use, used in enumerate(bases.grammar.rules[number][2]):
                if used not in ways:
                    ways[used] = (number, use)
                    order.append(used)
        at += 1
    return ways


def path_to(bases, ways, number):
    """The rules from the one with this number up to the name from which the ways lead: pairs as in `put_path`."""
    path = [(number, None)]
    way = ways[bases.grammar.rules[number][0]]
    while way is not None:
        path.append(way)
        way = ways[bases.grammar.rules[way[0]][0]]
    return path


def grown(bases, path):
    """The growth of the derivation in which a path leads to a rule, with base derivations below it and besides."""
    growth = Growth(bases)
    growth.put_path(path)
    return growth
