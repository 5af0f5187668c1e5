"""Players who get a party through a play, or who keep it from getting through ([46], [47])."""
from signedpacts.errors import BadAmount, Hopeless, PlayOver, WrongTurn
from signedpacts.needs import exceeds
from signedpacts.parties import check_party
from signedpacts.purses import body_need, least_purse, purse_for


def check_player(party, needed):
    """Raises BadParty or BadAmount if nobody can play for the party with this needed sum."""
    check_party(party)
    if needed is not None and needed < 0:
        raise BadAmount(needed)


def check_turn(play, party, is_for):
    """Raises PlayOver or WrongTurn if it is not the turn of the side that is for or against the party."""
    if play.turn == "over":
        raise PlayOver()
    if (play.turn == party) != is_for:
        raise WrongTurn()


def least_option(options, party, behind, purse, is_for):
    """The least index of an option after which the purse is enough, or after which it is too small."""
    enough = [not exceeds(body_need(option, party)(behind), purse) for option in options]
    return enough.index(is_for)


def least_rounds(part, party, behind, purse, is_for):
    """The least number of rounds after which the purse is enough, or after which it is too small."""
    need = body_need(part.body, party)
    return need.rounds_to_afford(behind, purse) if is_for else need.rounds_to_exceed(behind, purse)


def answer(play, party, needed, is_for):
    """The move of the side that is for or against the party."""
    check_turn(play, party, is_for)
    purse = play.coins(party)
    least = least_purse(play, party, needed=needed)
    if exceeds(least, purse) == is_for:
        raise Hopeless(least)
    members = play.row()
    part, _ = members[0]
    behind = 0 if part.KIND == "endless" else purse_for(members[1:], party, needed)
    if part.KIND == "choice":
        return "take", least_option(part.options, party, behind, purse, is_for)
    return "rounds", least_rounds(part, party, behind, purse, is_for)


class Keeper:
    """Plays for a party, so that it gets through."""

    def __init__(self, party, *, needed=0):
        check_player(party, needed)
        self._party = party
        self._needed = needed

    def move(self, play):
        """The move of the party."""
        return answer(play, self._party, self._needed, True)


class Breaker:
    """Plays for all others and for the world, so that a party does not get through."""

    def __init__(self, party, *, needed=0):
        check_player(party, needed)
        self._party = party
        self._needed = needed

    def move(self, play):
        """The move against the party."""
        return answer(play, self._party, self._needed, False)
