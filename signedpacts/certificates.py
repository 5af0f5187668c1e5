"""Certificates: papers that show the least sets of all names of a grammar ([24], [25])."""
from signedpacts.bases import Bases
from signedpacts.cores import Cores
from signedpacts.derivations import first_misfit
from signedpacts.rows import added, combine, difference, pivot_column
from signedpacts.stairs import remainder


def entry_of(cores, name):
    """The entry of a live name."""
    core = cores.by_name[name]
    start, start_factors = cores.start_of(name)
    sums = tuple([tuple(growth.steps) for growth in core.growths])
    return start, cores.stairs[core.lattice], sums, start_factors, core.factors


class Closures:
    """Makes the closures of rules; what turns one staircase into another one is reckoned only once."""

    def __init__(self, grammar, cores, entries):
        self.grammar = grammar
        self.cores = cores
        self.starts = {name: entry[0] for name, entry in zip(grammar.names, entries) if entry is not None}
        self.known = {}

    def turned(self, used, target):
        """What turns the steps with the second number into those with the first one."""
        if (used, target) not in self.known:
            stairs = self.cores.stairs
            self.known[used, target] = tuple([remainder(step, stairs[target])[1] for step in stairs[used]])
        return self.known[used, target]

    def closure(self, number):
        """The closure of a rule, or None if one of its uses is not live."""
        name, row, uses = self.grammar.rules[number]
        if not all([used in self.starts for used in uses]):
            return None
        target = self.cores.by_name[name].lattice
        over = difference(added([row, *[self.starts[used] for used in uses]]), self.starts[name])
        turns = [self.turned(self.cores.by_name[used].lattice, target) for used in uses]
        return remainder(over, self.cores.stairs[target])[1], tuple(turns)


def certificate(grammar):
    """A right certificate for the grammar."""
    bases = Bases(grammar)
    cores = Cores(bases)
    entries = tuple([entry_of(cores, name) if name in bases.numbers else None for name in grammar.names])
    closures = Closures(grammar, cores, entries)
    return entries, tuple([closures.closure(number) for number in range(len(grammar.rules))])


def has_unique_form(start, steps, width):
    """True if the start and the steps are those of a count set of the width."""
    if not all([len(row) == width for row in [start, *steps]]):
        return False
    before = -1
    above = [start]
    for step in steps:
        column = pivot_column(step)
        if not before < column < width or step[column] < 0:
            return False
        if not all([0 <= row[column] < step[column] for row in above]):
            return False
        above.append(step)
        before = column
    return True


def shows(rows, factors, altogether, row):
    """True if there is one factor for each row, and with them, altogether this, the rows combine to the row."""
    if len(factors) != len(rows) or sum(factors) != altogether:
        return False
    return combine(rows, factors, width=len(row)) == tuple(row)


class Reckoner:
    """Reckons the rows of derivations; parts that several of them have are reckoned only once."""

    def __init__(self, grammar):
        self.grammar = grammar
        self.numbers = {}
        self.rows = []

    def row_of(self, steps):
        """The row of the derivation with these steps."""
        found = []
        for number, uses in steps:
            key = (number, *[found[used] for used in uses])
            if key not in self.numbers:
                self.numbers[key] = len(self.rows)
                self.rows.append(added([self.grammar.rules[number][1], *[self.rows[part] for part in key[1:]]]))
            found.append(self.numbers[key])
        return self.rows[found[-1]]


def derives(grammar, steps, name):
    """True if the steps are those of a derivation of the name."""
    return first_misfit(grammar, steps) is None and grammar.rules[steps[-1][0]][0] == name


def is_right_entry(grammar, reckoner, name, entry):
    """True if the entry of a name is None or as [24] says."""
    if entry is None:
        return True
    start, steps, sums, start_factors, step_factors = entry
    if not has_unique_form(start, steps, grammar.width) or len(sums) == 0 or len(step_factors) != len(steps):
        return False
    if not all([derives(grammar, derivation, name) for derivation in sums]):
        return False
    rows = [reckoner.row_of(derivation) for derivation in sums]
    if not shows(rows, start_factors, 1, start):
        return False
    return all([shows(rows, factors, 0, step) for factors, step in zip(step_factors, steps)])


class Checker:
    """Checks closures against entries; a turn that is given again is not checked again."""

    def __init__(self, grammar, entries):
        self.grammar = grammar
        self.entries = {name: entry for name, entry in zip(grammar.names, entries)}
        self.known = {}

    def is_right_turn(self, name, used, turn):
        """True if the turn shows each step of the used name's set as a combination of those of the name's set."""
        target, steps = self.entries[name][1], self.entries[used][1]
        if self.known.get((name, used)) == turn:
            return True
        if len(turn) != len(steps) or not all([len(factors) == len(target) for factors in turn]):
            return False
        for factors, step in zip(turn, steps):
            if combine(target, factors, width=self.grammar.width) != tuple(step):
                return False
        self.known[name, used] = turn
        return True

    def is_right(self, number, closure):
        """True if the closure of the rule is as [24] says."""
        name, row, uses = self.grammar.rules[number]
        if not all([self.entries[used] is not None for used in uses]):
            return closure is None
        if closure is None or self.entries[name] is None:
            return False
        shift, turns = closure
        start, steps = self.entries[name][:2]
        if len(shift) != len(steps) or len(turns) != len(uses):
            return False
        over = difference(added([row, *[self.entries[used][0] for used in uses]]), start)
        if combine(steps, shift, width=self.grammar.width) != over:
            return False
        return all([self.is_right_turn(name, used, turn) for used, turn in zip(uses, turns)])


def accepts(grammar, paper):
    """True if the paper is a right certificate for the grammar, otherwise False."""
    entries, closures = paper
    if len(entries) != len(grammar.names) or len(closures) != len(grammar.rules):
        return False
    reckoner = Reckoner(grammar)
    for name, entry in zip(grammar.names, entries):
        if not is_right_entry(grammar, reckoner, name, entry):
            return False
    checker = Checker(grammar, entries)
    for number, closure in enumerate(closures):
        if not checker.is_right(number, closure):
            return False
    return True
