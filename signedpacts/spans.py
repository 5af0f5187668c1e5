"""Which stretches of a history the parts of a pact can make, and with which moves ([54])."""
from signedpacts.subsets import mask_of, members


class Spans:
    """A history, and what is known of the places up to which a part can lead in it."""

    def __init__(self, history, letters):
        self.history = history
        self.letters = letters
        self.known = {}

    def leads(self, part, at):
        """The mask of the places up to which the part can lead from the place `at`."""
        if part.KIND == "transfer" or (part.KIND == "event" and part.mark not in self.letters):
            return 1 << at
        if part.KIND == "event":
            return 1 << (at + 1) if self.history[at:at + 1] == part.mark else 0
        if (part.text, at) not in self.known:
            self.known[(part.text, at)] = self.leads_anew(part, at)
        return self.known[(part.text, at)]

    def leads_anew(self, part, at):
        """The mask of `leads` for a part that contains others."""
        if part.KIND == "endless":
            return 0
        if part.KIND == "choice":
            found = 0
            for option in part.options:
                found = found | self.masks_along(option.parts, at)[-1]
            return found
        if part.KIND == "times":
            return self.masks_along(repeated_parts(part), at)[-1]
        return mask_of(list(self.rounds_from(part, at)))

    def masks_along(self, parts, at):
        """The masks of the places behind none of the parts, behind the first one, behind the first two and so on."""
        masks = [1 << at]
        for part in parts:
            further = 0
            for place in members(masks[-1]):
                further = further | self.leads(part, place)
            masks.append(further)
        return masks

    def stops_behind(self, parts, at):
        """The places up to which the parts, one after the other, can lead."""
        return members(self.masks_along(parts, at)[-1])

    def rounds_from(self, part, at):
        """For each place that any number of rounds can lead to the place one round before, on a shortest way."""
        before = {at: None}
        waiting = [at]
        met = 0
        while met < len(waiting):
            place = waiting[met]
            for further in self.stops_behind(part.body.parts, place):
                if further not in before:
                    before[further] = place
                    waiting.append(further)
            met += 1
        return before

    def moves_through(self, parts, at, stop):
        """Moves with which the parts, one after the other, lead from the one place to the other."""
        masks = self.masks_along(parts, at)
        found = []
        place = stop
        for number in reversed(range(len(parts))):
            part = parts[number]
            goal = place
            place = [one for one in members(masks[number]) if self.leads(part, one) & (1 << goal)][0]
            found.append(self.moves_of_part(part, place, goal))
        return [move for moves in found[::-1] for move in moves]

    def moves_of_part(self, part, at, stop):
        """Moves with which the part leads from the one place to the other."""
        if part.KIND in ("transfer", "event"):
            return []
        if part.KIND == "times":
            return self.moves_through(repeated_parts(part), at, stop)
        if part.KIND == "choice":
            able = [stop in self.stops_behind(option.parts, at) for option in part.options]
            number = able.index(True)
            return [("take", number), *self.moves_through(part.options[number].parts, at, stop)]
        before = self.rounds_from(part, at)
        places = [stop]
        while places[-1] != at:
            places.append(before[places[-1]])
        # In each round the number of rounds that are left is named; with none left, the rounds end by themselves.
        moves = [("rounds", 0)] if len(places) == 1 else []
        for left in reversed(range(1, len(places))):
            moves.append(("rounds", left))
            moves.extend(self.moves_through(part.body.parts, places[left], places[left - 1]))
        return moves


def repeated_parts(part):
    """The parts of all the rounds that are made a fixed number of times."""
    return [inner for _ in range(part.count) for inner in part.body.parts]
