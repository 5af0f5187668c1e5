"""Which events of a pact can come first, last and next ([52]).

The events with one of the letters are numbered as they stand in the pact, once for each time that they stand
there. So the texts of a pact are read with one state for each event, however its choices and rounds are nested.
"""
from signedpacts.subsets import members


class Sketch:
    """The marks of the numbered events, and for each event the mask of those that can come next behind it."""

    def __init__(self, letters):
        self.letters = letters
        self.marks = []
        self.nexts = []

    def link(self, lasts, firsts):
        """Lets each of the last events be followed by each of the first ones."""
        for event in members(lasts):
            self.nexts[event] = self.nexts[event] | firsts

    def draw_event(self, mark):
        """Draws an event."""
        if mark not in self.letters:
            return True, 0, 0
        self.marks.append(mark)
        self.nexts.append(0)
        only = 1 << (len(self.marks) - 1)
        return False, only, only

    def draw_part(self, part):
        """Draws a part: whether it can go by without an event, and the masks of its first and its last events.

        What has no done play has no last events, and it cannot go by without one.
        """
        if part.KIND == "event":
            return self.draw_event(part.mark)
        if part.KIND == "transfer":
            return True, 0, 0
        if part.KIND == "endless":
            return False, 0, 0
        if part.KIND == "choice":
            drawn = [self.draw_parts(option.parts) for option in part.options]
            firsts = 0
            lasts = 0
            for _, some_firsts, some_lasts in drawn:
                firsts = firsts | some_firsts
                lasts = lasts | some_lasts
            return any([empty for empty, _, _ in drawn]), firsts, lasts
        if part.KIND == "times":
            return self.draw_parts([inner for _ in range(part.count) for inner in part.body.parts])
        _, firsts, lasts = self.draw_parts(part.body.parts)
        self.link(lasts, firsts)
        return True, firsts, lasts

    def draw_parts(self, parts):
        """Draws parts one after the other."""
        empty = True
        firsts = 0
        lasts = 0
        for part in parts:
            part_empty, part_firsts, part_lasts = self.draw_part(part)
            self.link(lasts, part_firsts)
            firsts = firsts | part_firsts if empty else firsts
            lasts = lasts | part_lasts if part_empty else part_lasts
            empty = empty and part_empty
        return empty, firsts, lasts
