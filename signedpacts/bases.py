"""Base derivations, one for each live name, and what each rule changes about them ([21], [22])."""
from signedpacts.rows import added, difference


def first_rules(grammar):
    """For each live name the number of a rule that stands at the top of a derivation of the least height.

    The names stand in the order of these heights, so each one stands behind all that its rule uses.
    """
    users = {name: [] for name in grammar.names}
    lacking = []
    for number, rule in enumerate(grammar.rules):
        used_names = sorted(set(rule[2]))
        lacking.append(len(used_names))
        for used in used_names:
            users[used].append(number)
    found = {}
    ready = [number for number, many in enumerate(lacking) if many == 0]
    at = 0
    while at < len(ready):
        name = grammar.rules[ready[at]][0]
        if name not in found:
            found[name] = ready[at]
            for number in users[name]:
                lacking[number] -= 1
                if lacking[number] == 0:
                    ready.append(number)
        at += 1
    return found


class Bases:
    """The base derivations of all live names of a grammar.

    `numbers` has for each live name the number of the rule at the top of its base derivation. `names` has the
    live names, each behind those that this rule uses, and `places` their places in it.
    """

    def __init__(self, grammar):
        self.grammar = grammar
        self.numbers = first_rules(grammar)
        self.names = list(self.numbers)
        self.places = {name: at for at, name in enumerate(self.names)}

    def live_rules(self, name):
        """The ascending numbers of those rules of a name all of whose uses are live."""
        rules = self.grammar.rules
        return [number for number in self.grammar.rules_of(name)
                if all([used in self.numbers for used in rules[number][2]])]

    def below(self, names, known):
        """The names in the base derivations of these names, without known ones, each behind those that it uses."""
        waiting = list(names)
        found = {}
        while waiting:
            name = waiting.pop()
            if name not in known and name not in found:
                found[name] = True
                waiting.extend(self.grammar.rules[self.numbers[name]][2])
        places = sorted([self.places[needed] for needed in found])
        return [self.names[place] for place in places]


def base_totals(bases):
    """For each live name the row of its base derivation."""
    totals = {}
    for name, number in bases.numbers.items():
        _, row, uses = bases.grammar.rules[number]
        totals[name] = added([row, *[totals[used] for used in uses]])
    return totals


def change_by(grammar, totals, number):
    """What the row of a derivation gains if a base derivation in it begins with this rule instead.

    Each derivation's row is that of the base derivation of its name plus the changes by all its rules.
    """
    name, row, uses = grammar.rules[number]
    return difference(added([row, *[totals[used] for used in uses]]), totals[name])
