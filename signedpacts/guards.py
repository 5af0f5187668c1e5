"""Duties that a party can keep alone, and players for and against them ([57], [58])."""
from signedpacts.errors import CannotKeep
from signedpacts.fronts import Fronts
from signedpacts.keepers import check_turn
from signedpacts.parties import check_marks, check_party
from signedpacts.runs import history_of
from signedpacts.subsets import members


def fronts_for(party, duty):
    """The sets for a party and a duty; raises BadParty or BadMark if there are none."""
    check_party(party)
    check_marks(duty.letters)
    return Fronts(party, duty)


def guard_states(pact, party, duty):
    """The ascending states of the duty from which the party can guard what is left of it through the pact."""
    fronts = fronts_for(party, duty)
    front = fronts.before_parts(pact.parts, fronts.at_end)
    return tuple([state for state in members(front) if state != fronts.lost])


def can_guard(pact, party, duty):
    """True if the party can guard the duty through the pact."""
    fronts = fronts_for(party, duty)
    return fronts.state_behind("") in members(fronts.before_parts(pact.parts, fronts.at_end))


def answer(fronts, play, is_for):
    """The move of the side that is for or against the party and its duty."""
    check_turn(play, fronts.party, is_for)
    state = fronts.state_behind(history_of(play.happened()))
    row = play.row()
    part, limit = row[0]
    # Whoever is cut off in endless rounds has not broken the duty.
    if part.KIND == "endless":
        raise CannotKeep()
    behind = fronts.before_members(row[1:])
    if part.KIND == "choice":
        word = "take"
        number = fronts.least_option(part, behind, state, is_for)
    else:
        word = "rounds"
        number = fronts.least_rounds(part, limit, behind, state, is_for)
    if number is None:
        raise CannotKeep()
    return word, number


class Guard:
    """Plays for a party, so that the play keeps the duty if it is done."""

    def __init__(self, party, duty):
        self._fronts = fronts_for(party, duty)

    def move(self, play):
        """The move of the party."""
        return answer(self._fronts, play, True)


class Spoiler:
    """Plays for all others and for the world, so that the play is done and breaks the duty."""

    def __init__(self, party, duty):
        self._fronts = fronts_for(party, duty)

    def move(self, play):
        """The move against the party."""
        return answer(self._fronts, play, False)
