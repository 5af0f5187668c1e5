"""The least sets of all live names of a grammar at once, with derivations that show them ([24]).

A name's least set is the row of its base derivation plus all combinations of the changes by the rules in
its derivations. So names that are in each other's derivations have the same steps. Where a rule leads from
a name to another one with the same steps, the derivations of that one, with the rule above them, show the
name's set just as well: their rows differ by the same rows.
"""
from signedpacts.bases import base_totals, change_by
from signedpacts.growth import Growth
from signedpacts.rows import added, combine, difference
from signedpacts.stairs import is_combination, remainder, staircase, with_row
from signedpacts.ways import grown, path_to, ways_from


class Core:
    """What shows the least set of a name.

    `lattice` is the number of its steps, `first` the row of the first one of the growths, and `factors`
    has one tuple for each step: the factors with which the rows of the growths combine to it.
    """

    def __init__(self, lattice, growths, first, factors):
        self.lattice = lattice
        self.growths = growths
        self.first = first
        self.factors = factors


def masks_below(bases):
    """For each live name the mask of the places of all names in its derivations, its own place included."""
    masks = []
    for name, place in bases.places.items():
        mask = 1 << place
        for number in bases.live_rules(name):
            for used in bases.grammar.rules[number][2]:
                mask = mask | (1 << bases.places[used])
        masks.append(mask)
    for middle in range(len(masks)):
        for place in range(len(masks)):
            if (masks[place] >> middle) & 1:
                masks[place] = masks[place] | masks[middle]
    return masks


def bits_in(mask):
    """The number of bits that are set in the mask."""
    written = f"{mask:b}"
    return written.count("1")


def groups_of(bases):
    """Lists of the live names that are in each other's derivations, each behind those that it leads to."""
    groups = {}
    for name, mask in zip(bases.names, masks_below(bases)):
        groups.setdefault(mask, []).append(name)
    order = sorted([(bits_in(mask), mask) for mask in groups])
    return [groups[mask] for _, mask in order]


def few_rows(rows, many, width):
    """The indexes of some of the rows that have the same combinations; many of them would be enough at best."""
    if len(rows) == many:
        return list(range(len(rows)))
    # The later ones were needed beside the earlier ones, but often not the other way round.
    kept = []
    steps = []
    for at, row in reversed(list(enumerate(rows))):
        if not is_combination(row, steps):
            steps, _ = with_row(steps, row, width)
            kept.append(at)
    return kept[::-1]


class Cores:
    """The cores of all live names, and the staircases that are their steps, by their numbers."""

    def __init__(self, bases):
        self.bases = bases
        self.by_name = {}
        self.stairs = []
        self._totals = base_totals(bases)
        self._changes = {}
        self._users = {name: [] for name in bases.numbers}
        for name in bases.numbers:
            for number in bases.live_rules(name):
                self._changes[number] = change_by(bases.grammar, self._totals, number)
                for use, used in enumerate(bases.grammar.rules[number][2]):
                    self._users[used].append((number, use))
        self._lattices = {}
        for group in groups_of(bases):
            self._put_group(group)

    def _steps_for(self, group):
        """The steps of the least sets of a group, a tuple of tuples."""
        width = self.bases.grammar.width
        steps = []
        done = set()
        for number in [number for name in group for number in self.bases.live_rules(name)]:
            steps, _ = with_row(steps, self._changes[number], width)
            for used in self.bases.grammar.rules[number][2]:
                lattice = self.by_name[used].lattice if used in self.by_name else None
                if lattice is not None and lattice not in done:
                    done.add(lattice)
                    for step in self.stairs[lattice]:
                        steps, _ = with_row(steps, step, width)
        return tuple([tuple(step) for step in steps])

    def _put_group(self, group):
        """Makes the cores of a group. Those of all other names that it leads to are made."""
        steps = self._steps_for(group)
        if steps not in self._lattices:
            self._lattices[steps] = len(self.stairs)
            self.stairs.append(steps)
        lattice = self._lattices[steps]
        ways = [self._way_out(name, lattice) for name in group]
        for way in ways:
            if way is not None:
                self._put_above(way)
        placed = [name for name, way in zip(group, ways) if way is not None]
        if not placed:
            placed = [group[0]]
            self._put_alone(group[0], lattice)
        self._spread(group, placed)

    def _way_out(self, name, lattice):
        """A rule of the name and a use in it that leads to a core with these steps, or None."""
        for number in self.bases.live_rules(name):
            for use, used in enumerate(self.bases.grammar.rules[number][2]):
                if used in self.by_name and self.by_name[used].lattice == lattice:
                    return number, use
        return None

    def _put_above(self, way):
        """Makes the core of a rule's name from the core of the name that it uses."""
        number, use = way
        name, _, uses = self.bases.grammar.rules[number]
        core = self.by_name[uses[use]]
        growths = [growth.again() for growth in core.growths]
        for growth in growths:
            growth.put_path([way])
        shift = difference(added([self._totals[name], self._changes[number]]), self._totals[uses[use]])
        self.by_name[name] = Core(core.lattice, growths, added([core.first, shift]), core.factors)

    def _put_alone(self, name, lattice):
        """Makes the core of a name from derivations through the ways that lead from it."""
        width = self.bases.grammar.width
        ways = ways_from(self.bases, name)
        paths = []
        rows = []
        steps = []
        for number in [number for met in ways for number in self.bases.live_rules(met)]:
            if not is_combination(self._changes[number], steps):
                steps, _ = with_row(steps, self._changes[number], width)
                paths.append(path_to(self.bases, ways, number))
                rows.append(added([self._changes[passed] for passed, _ in paths[-1]]))
        kept = few_rows(rows, len(steps), width)
        growths = [grown(self.bases, [(self.bases.numbers[name], None)])]
        growths.extend([grown(self.bases, paths[at]) for at in kept])
        _, factors = staircase([rows[at] for at in kept], width=width)
        full = tuple([(-sum(some), *some) for some in factors])
        self.by_name[name] = Core(lattice, growths, self._totals[name], full)

    def _spread(self, group, placed):
        """Makes the cores of the other names of a group, the nearest ones to those that have one first."""
        inside = {member: True for member in group}
        waiting = list(placed)
        at = 0
        while at < len(waiting):
            name = waiting[at]
            for way in self._users[name]:
                user = self.bases.grammar.rules[way[0]][0]
                if user in inside and user not in self.by_name:
                    self._put_above(way)
                    waiting.append(user)
            at += 1

    def start_of(self, name):
        """The start of the name's least set, and the factors with which the rows of its growths combine to it."""
        core = self.by_name[name]
        start, shifts = remainder(core.first, self.stairs[core.lattice])
        only_first = [1 if at == 0 else 0 for at in range(len(core.growths))]
        back = [1, *[-shift for shift in shifts]]
        return start, combine([only_first, *core.factors], back, width=len(core.growths))
