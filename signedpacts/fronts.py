"""From which states of a duty a party can guard it, reckoned from the back to the front ([57], [58]).

Sets of states are masks. Behind a text that a duty cannot read there is a state without a number; its bit is the
one above those of the states.
"""
from signedpacts.subsets import mask_of, members


class Fronts:
    """The sets in front of parts, for a party and a duty."""

    def __init__(self, party, duty):
        lost = len(duty.rows)
        self.party = party
        self.duty = duty
        self.lost = lost
        self.every = (1 << (lost + 1)) - 1
        self.at_end = mask_of(duty.good)
        self.known = {}

    def state_behind(self, history):
        """The state behind a history, in which other marks may stand."""
        state = self.duty.after("".join([mark for mark in history if mark in self.duty.letters]))
        return self.lost if state is None else state

    def before_event(self, mark, behind):
        """The states from which the mark leads into a set."""
        letter = self.duty.letters.find(mark)
        if letter < 0:
            return behind
        targets = [row[letter] for row in self.duty.rows]
        leads = [self.lost if target is None else target for target in targets] + [self.lost]
        return mask_of([state for state, target in enumerate(leads) if behind & (1 << target)])

    def before_part(self, part, behind):
        """The set in front of a part, where `behind` is the one behind it."""
        if part.KIND == "transfer":
            return behind
        if part.KIND == "event":
            return self.before_event(part.mark, behind)
        if part.KIND == "endless":
            return self.every
        if (part.text, behind) not in self.known:
            self.known[(part.text, behind)] = self.before_anew(part, behind)
        return self.known[(part.text, behind)]

    def before_anew(self, part, behind):
        """The set of `before_part` for a part that contains others."""
        if part.KIND == "times":
            front = behind
            for _ in range(part.count):
                front = self.before_parts(part.body.parts, front)
            return front
        if part.KIND == "rounds":
            return self.before_rounds(part, None, behind)
        fronts = [self.before_parts(option.parts, behind) for option in part.options]
        result = fronts[0]
        for front in fronts:
            result = result | front if part.owner == self.party else result & front
        return result

    def before_parts(self, parts, behind):
        """The set in front of parts, one after the other."""
        front = behind
        for part in reversed(list(parts)):
            front = self.before_part(part, front)
        return front

    def one_more(self, part, front):
        """The set in front of rounds if one more round can be made."""
        round_front = self.before_parts(part.body.parts, front)
        return front | round_front if part.owner == self.party else front & round_front

    def before_rounds(self, part, limit, behind):
        """The set in front of rounds with a limit."""
        front = behind
        made = 0
        while limit is None or made < limit:
            further = self.one_more(part, front)
            if further == front:
                return front
            front = further
            made += 1
        return front

    def before_members(self, row):
        """The set in front of the members of a row."""
        front = self.at_end
        for part, limit in reversed(list(row)):
            if part.KIND == "rounds" and limit is not None:
                front = self.before_rounds(part, limit, front)
            else:
                front = self.before_part(part, front)
        return front

    def least_option(self, part, behind, state, is_for):
        """The least index of an option in front of which the state is guarded, or is not, or None."""
        for number, option in enumerate(part.options):
            front = self.before_parts(option.parts, behind)
            if (state in members(front)) == is_for:
                return number
        return None

    def least_rounds(self, part, limit, behind, state, is_for):
        """The least number of rounds after which the state is guarded, or is not, or None."""
        if (state in members(behind)) == is_for:
            return 0
        front = behind
        number = 1
        while limit is None or number <= limit:
            round_front = self.before_parts(part.body.parts, front)
            if (state in members(round_front)) == is_for:
                return number
            further = self.one_more(part, front)
            # When nothing changes any more, greater numbers are no better.
            if further == front:
                return None
            front = further
            number += 1
        return None
