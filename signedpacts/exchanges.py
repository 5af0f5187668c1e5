"""Exchanges of letters that may be lost, and what the two ends see of them ([70], [71])."""
from signedpacts.errors import BadBit, BadEnd, BadFate

ENDS = ("first", "second")
FATES = "bfsn"

# The fates with which a letter arrives at an end. A fate is called after the letter that is lost, and this letter
# would have gone to the other end.
ARRIVING = {"first": "bf", "second": "bs"}


def check_end(end):
    """Raises BadEnd if the text is not one of the two ends."""
    if end not in ENDS:
        raise BadEnd(end)


def check_bits(bits):
    """Raises BadBit for the first number that is not 0 or 1."""
    for bit in bits:
        if bit not in (0, 1):
            raise BadBit(bit)


def check_fates(fates):
    """Raises BadFate for the first character that is no fate."""
    for at, fate in enumerate(fates):
        if fate not in FATES:
            raise BadFate(at)


class Exchange:
    """The bits of both ends and the fates of the letters in each round."""

    def __init__(self, first_bit, second_bit, fates):
        check_bits([first_bit, second_bit])
        check_fates(fates)
        self.first_bit = first_bit
        self.second_bit = second_bit
        self.fates = fates

    def __len__(self):
        return len(self.fates)

    def __eq__(self, other):
        return (isinstance(other, Exchange) and self.first_bit == other.first_bit
                and self.second_bit == other.second_bit and self.fates == other.fates)

    def seen(self, end):
        """The view of an end."""
        check_end(end)
        own, other = self.first_bit, self.second_bit
        if end == "second":
            own, other = other, own
        arrived = [at for at, fate in enumerate(self.fates) if fate in ARRIVING[end]]
        if not arrived:
            return own, None, "", len(self.fates)
        return own, other, self.fates[:arrived[-1]], len(self.fates) - arrived[-1] - 1


def alike(one, other, *, to):
    """True if both exchanges show the end the same view."""
    return one.seen(to) == other.seen(to)
