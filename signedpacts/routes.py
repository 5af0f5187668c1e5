"""The ways through a pact, as a graph: every way from its first place to its last one is a done play ([93])."""


class Routes:
    """Places, and lines between them: (place, part, place), where the part is a transfer, an event or None."""

    def __init__(self, pact):
        self.many = 1
        self.lines = []
        self.last = self.lay_parts(pact.parts, 0)

    def new_place(self):
        """One more place, to which no line leads yet."""
        self.many += 1
        return self.many - 1

    def lay_parts(self, parts, start):
        """Lays the lines for parts one after the other; returns the place behind them."""
        place = start
        for part in parts:
            place = self.lay_part(part, place)
        return place

    def lay_part(self, part, start):
        """Lays the lines for a part; returns the place behind it."""
        if part.KIND == "times":
            return self.lay_parts([inner for _ in range(part.count) for inner in part.body.parts], start)
        place = self.new_place()
        if part.KIND in ("transfer", "event"):
            self.lines.append((start, part, place))
        if part.KIND == "choice":
            for option in part.options:
                self.lines.append((self.lay_parts(option.parts, start), None, place))
        if part.KIND == "rounds":
            # A place of its own, since the rounds lead back to it.
            self.lines.append((start, None, place))
            self.lines.append((self.lay_parts(part.body.parts, place), None, place))
        # Behind endless rounds nothing is ever reached.
        return place
