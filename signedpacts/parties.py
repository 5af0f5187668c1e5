"""The parties and the marks, and the errors for texts that are neither ([2])."""
from signedpacts.errors import BadMark, BadParty

PARTIES = "abcdef"
MARKS = "ABCDEFGHIJKLMNOPQRSTUVWXYZ"


def check_party(party):
    """Raises BadParty if the text is not a party."""
    if len(party) != 1 or party not in PARTIES:
        raise BadParty(party)


def check_mark(mark):
    """Raises BadMark if the text is not a mark."""
    if len(mark) != 1 or mark not in MARKS:
        raise BadMark(mark)


def check_marks(letters):
    """Raises BadMark for the first letter that is not a mark."""
    for letter in letters:
        check_mark(letter)
