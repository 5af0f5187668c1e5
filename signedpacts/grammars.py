"""Grammars: names and the rules by which sums of rows are derived from them ([17])."""
from signedpacts.errors import BadName, BadRule, UnknownName


def check_names(names):
    """Raises BadName for the first name that is empty or occurs earlier."""
    seen = set()
    for at, name in enumerate(names):
        if name == "" or name in seen:
            raise BadName(at)
        seen.add(name)


def check_rules(rules, names, width):
    """Raises BadRule for the first rule with an unknown name or a row of another width."""
    known = set(names)
    for number, (name, row, uses) in enumerate(rules):
        if len(row) != width or not all([used in known for used in [name, *uses]]):
            raise BadRule(number)


class Grammar:
    """Names, and rules that give a row and the names that are used besides."""

    def __init__(self, width, names, rules):
        check_names(names)
        check_rules(rules, names, width)
        numbers = {name: [] for name in names}
        for number, rule in enumerate(rules):
            numbers[rule[0]].append(number)
        self.width = width
        self.names = tuple(names)
        self.rules = tuple([(name, tuple(row), tuple(uses)) for name, row, uses in rules])
        self._numbers = {name: tuple(numbers[name]) for name in names}

    def rules_of(self, name):
        """The numbers of the rules of a name, in ascending order."""
        if name not in self._numbers:
            raise UnknownName(name)
        return self._numbers[name]
