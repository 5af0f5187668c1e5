"""The errors that the program raises. Their fields keep what was passed, unchanged."""


class HouseError(ValueError):
    """The base class of all errors that the program raises."""


class BadAmount(HouseError):
    """A number of coins is out of range."""
    def __init__(self, value):
        self.value = value


class BadBit(HouseError):
    """A bit is not 0 or 1."""
    def __init__(self, bit):
        self.bit = bit


class BadClause(HouseError):
    """The text of an amendment is not a written pact."""
    def __init__(self, label):
        self.label = label


class BadCount(HouseError):
    """A count is out of range."""
    def __init__(self, value):
        self.value = value


class BadDays(HouseError):
    """The days of a day rule are not as described."""
    def __init__(self, at):
        self.at = at


class BadDeed(HouseError):
    """A paper contests a deed that cannot be contested."""
    def __init__(self, number):
        self.number = number


class BadEnd(HouseError):
    """A text is not one of the two ends."""
    def __init__(self, end):
        self.end = end


class BadEvent(HouseError):
    """A bound names a number that is not an event."""
    def __init__(self, at):
        self.at = at


class BadFate(HouseError):
    """A character is not a fate."""
    def __init__(self, at):
        self.at = at


class BadLetters(HouseError):
    """A machine has no letter, or one letter twice."""
    def __init__(self, letters):
        self.letters = letters


class BadLine(HouseError):
    """A line does not write a deed."""
    def __init__(self, number):
        self.number = number


class BadMark(HouseError):
    """A text is not a mark, or not one that can stand here."""
    def __init__(self, mark):
        self.mark = mark


class BadMove(HouseError):
    """A move is not allowed here."""
    def __init__(self, value):
        self.value = value


class BadName(HouseError):
    """A name of a grammar is empty or occurs earlier."""
    def __init__(self, at):
        self.at = at


class BadNeed(HouseError):
    """A field of a need is not as described."""
    def __init__(self, field):
        self.field = field


class BadPair(HouseError):
    """A key of debts is not a text of two different parties."""
    def __init__(self, pair):
        self.pair = pair


class BadPaper(HouseError):
    """A number is not that of a paper."""
    def __init__(self, number):
        self.number = number


class BadPart(HouseError):
    """A part or a pact has the wrong kind."""
    def __init__(self, value):
        self.value = value


class BadParty(HouseError):
    """A text is not a party, or not one that can stand here."""
    def __init__(self, party):
        self.party = party


class BadRow(HouseError):
    """A row of a machine does not fit the letters and the states."""
    def __init__(self, state):
        self.state = state


class BadRule(HouseError):
    """A rule does not fit the names and the width of its grammar."""
    def __init__(self, number):
        self.number = number


class BadState(HouseError):
    """A good state is not the number of a row."""
    def __init__(self, state):
        self.state = state


class BadStep(HouseError):
    """A step of a derivation is not as described."""
    def __init__(self, at):
        self.at = at


class BadText(HouseError):
    """A text is not a written pact."""
    def __init__(self, at):
        self.at = at


class BadWait(HouseError):
    """A wait leads some day to an earlier one."""
    def __init__(self, mark):
        self.mark = mark


class BadWidth(HouseError):
    """A row has another number of entries than it should have."""
    def __init__(self, width):
        self.width = width


class Hopeless(HouseError):
    """A side cannot reach its aim with the party's purse."""
    def __init__(self, least):
        self.least = least


class Missing(HouseError):
    """An amendment rests on one that is not there or does not fit."""
    def __init__(self, label):
        self.label = label


class NameTaken(HouseError):
    """A pact is signed under this name already."""
    def __init__(self, name):
        self.name = name


class NeverSeen(HouseError):
    """No allowed exchange shows this view."""
    def __init__(self, view):
        self.view = view


class NoAnswer(HouseError):
    """A paper has no counting answer to the other one."""
    def __init__(self, number):
        self.number = number


class NoDebt(HouseError):
    """A debt is less than what is to be paid of it."""
    def __init__(self, pair):
        self.pair = pair


class NoPact(HouseError):
    """No pact is signed under this name."""
    def __init__(self, name):
        self.name = name


class NoPurse(HouseError):
    """A party has no purse."""
    def __init__(self, party):
        self.party = party


class NoSum(HouseError):
    """A name has no derivation."""
    def __init__(self, name):
        self.name = name


class NotUpheld(HouseError):
    """A paper is not upheld."""
    def __init__(self, number):
        self.number = number


class OutOfChain(HouseError):
    """A chain has no exchange at this position."""
    def __init__(self, position):
        self.position = position


class SameLabel(HouseError):
    """Two different amendments have the same label."""
    def __init__(self, label):
        self.label = label


class ShortPurse(HouseError):
    """A purse has less than what is to be paid."""
    def __init__(self, party):
        self.party = party


class TooLarge(HouseError):
    """A part or a pact is too heavy or too deep."""
    def __init__(self, weight, depth):
        self.weight = weight
        self.depth = depth


class UnknownLabel(HouseError):
    """A draft has no amendment with this label."""
    def __init__(self, label):
        self.label = label


class UnknownName(HouseError):
    """A grammar does not have this name."""
    def __init__(self, name):
        self.name = name


class CannotDecide(HouseError):
    """The two ends cannot be sure."""


class CannotKeep(HouseError):
    """A side cannot reach its aim with any move."""


class LettersDiffer(HouseError):
    """Two machines have different letters."""


class NoChain(HouseError):
    """There is no chain for this number of rounds."""


class NoMoves(HouseError):
    """No move is left to take back."""


class NotAllowed(HouseError):
    """The rule of loss does not allow these fates."""


class NothingToRedo(HouseError):
    """No deed is left to do again."""


class NothingToUndo(HouseError):
    """No deed is left to take back."""


class PlayOver(HouseError):
    """The play is over."""


class Unmatched(HouseError):
    """No exchange shows the two views."""


class WrongTurn(HouseError):
    """It is not the turn of this side."""
