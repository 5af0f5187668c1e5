"""Derivations that grow from their lowest steps upwards."""


class Growth:
    """The steps of a derivation so far. `places` has the numbers of the steps that are base derivations, by name."""

    def __init__(self, bases):
        self.bases = bases
        self.steps = []
        self.places = {}

    def again(self):
        """Another growth with the same steps, which grows on for itself."""
        other = Growth(self.bases)
        other.steps = list(self.steps)
        # It is never changed, only replaced, so both can have it.
        other.places = self.places
        return other

    def put_bases(self, names):
        """Puts down the base derivations of these names, as far as they are missing."""
        missing = self.bases.below(names, self.places)
        if missing:
            places = dict(self.places)
            for name in missing:
                number = self.bases.numbers[name]
                uses = self.bases.grammar.rules[number][2]
                places[name] = len(self.steps)
                self.steps.append((number, tuple([places[used] for used in uses])))
            self.places = places

    def put_path(self, path):
        """Puts down rules, each one above the one before it; all other uses are base derivations.

        The path has pairs of the number of a rule and the index of that use which is the step before, or None.
        """
        last = len(self.steps) - 1
        rules = self.bases.grammar.rules
        self.put_bases([used for number, at in path for use, used in enumerate(rules[number][2]) if use != at])
        for number, at in path:
            uses = [last if use == at else self.places[used] for use, used in enumerate(rules[number][2])]
            last = len(self.steps)
            self.steps.append((number, tuple(uses)))
