"""Derivations: steps that use rules of a grammar, up to the step that is the whole ([18] to [20])."""
from signedpacts.errors import BadStep
from signedpacts.rows import added


def first_misfit(grammar, steps):
    """The index of the first step that is not as [18] says, 0 if there are no steps, or None."""
    derived = []
    for at, (number, uses) in enumerate(steps):
        if not 0 <= number < len(grammar.rules):
            return at
        name, _, names = grammar.rules[number]
        if len(uses) != len(names):
            return at
        for used, wanted in zip(uses, names):
            if not 0 <= used < at or derived[used] != wanted:
                return at
        derived.append(name)
    return None if derived else 0


def check_leftmost(grammar, name, numbers):
    """Raises UnknownName or BadStep if the numbers are not those that a derivation of the name yields."""
    grammar.rules_of(name)
    waiting = [name]
    for at, number in enumerate(numbers):
        if not waiting or not 0 <= number < len(grammar.rules):
            raise BadStep(at)
        derived, _, uses = grammar.rules[number]
        if derived != waiting.pop():
            raise BadStep(at)
        waiting.extend(uses[::-1])
    if waiting:
        raise BadStep(len(numbers))


def steps_written(grammar, numbers):
    """The steps of the derivation that yields these numbers."""
    steps = []
    # From right to left, what a rule uses is put down before it, the leftmost use as the last one.
    ready = []
    for number in reversed(list(numbers)):
        first = len(ready) - len(grammar.rules[number][2])
        steps.append((number, ready[first:][::-1]))
        del ready[first:]
        ready.append(len(steps) - 1)
    return steps


class Derivation:
    """A derivation in a grammar; the last one of its steps is the whole."""

    def __init__(self, grammar, steps):
        at = first_misfit(grammar, steps)
        if at is not None:
            raise BadStep(at)
        rows = []
        sizes = []
        heights = []
        for number, uses in steps:
            rows.append(added([grammar.rules[number][1], *[rows[used] for used in uses]]))
            sizes.append(1 + sum([sizes[used] for used in uses]))
            heights.append(1 + max([heights[used] for used in uses], default=0))
        self.grammar = grammar
        self.steps = tuple([(number, tuple(uses)) for number, uses in steps])
        self._row = rows[-1]
        self._rule_uses = sizes[-1]
        self._levels = heights[-1]

    @classmethod
    def from_rules(cls, grammar, name, numbers):
        """The derivation of the name for which `leftmost` yields these numbers."""
        check_leftmost(grammar, name, numbers)
        return cls(grammar, steps_written(grammar, numbers))

    @property
    def root(self):
        """The name that is derived."""
        return self.grammar.rules[self.steps[-1][0]][0]

    @property
    def total(self):
        """The row."""
        return self._row

    @property
    def size(self):
        """The number of rule uses, where each step counts as often as it is used."""
        return self._rule_uses

    @property
    def height(self):
        """The number of steps in the longest way down."""
        return self._levels

    def leftmost(self):
        """Yields the rules' numbers: the last step's one, then those of the steps that it uses, from left to right."""
        waiting = [len(self.steps) - 1]
        while waiting:
            number, uses = self.steps[waiting.pop()]
            yield number
            # What is added last is taken first.
            waiting.extend(uses[::-1])
