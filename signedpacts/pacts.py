"""Pacts and their parts, with their sizes and their written form ([31] to [35])."""
from signedpacts.errors import BadAmount, BadCount, BadPart, BadParty, TooLarge
from signedpacts.parties import check_mark, check_party


def check_amount(amount):
    """Raises BadAmount if a transfer cannot have this amount."""
    if not 0 <= amount <= 10 ** 60:
        raise BadAmount(amount)


def check_pact(value):
    """Raises BadPart if the value is no pact."""
    if not isinstance(value, Pact):
        raise BadPart(value)


def check_part(value):
    """Raises BadPart if the value is none of the six kinds of parts."""
    if not isinstance(value, (Transfer, Event, Choice, Rounds, Endless, Times)):
        raise BadPart(value)


def check_size(weight, depth):
    """Raises TooLarge if a part or a pact with this weight and this depth is too large."""
    if weight > 400 or depth > 30:
        raise TooLarge(weight, depth)


class Transfer:
    """The payer pays the payee the amount."""
    KIND = "transfer"

    def __init__(self, payer, payee, amount):
        check_party(payer)
        check_party(payee)
        if payee == payer:
            raise BadParty(payee)
        check_amount(amount)
        self.payer = payer
        self.payee = payee
        self.amount = amount
        self.weight = 1
        self.depth = 1
        self.text = f"{payer}{payee}{amount}"


class Event:
    """Something that the pact names by a mark happens."""
    KIND = "event"

    def __init__(self, mark):
        check_mark(mark)
        self.mark = mark
        self.weight = 1
        self.depth = 1
        self.text = mark


class Choice:
    """The owner chooses which one of several pacts is carried out."""
    KIND = "choice"

    def __init__(self, owner, options):
        check_party(owner)
        if not 2 <= len(options) <= 6:
            raise BadCount(len(options))
        for option in options:
            check_pact(option)
        weight = 1 + sum([option.weight for option in options])
        depth = 1 + max([option.depth for option in options])
        check_size(weight, depth)
        self.owner = owner
        self.options = tuple(options)
        self.weight = weight
        self.depth = depth
        written = " | ".join([option.text for option in options])
        self.text = f"{owner}({written})"


class Rounds:
    """Rounds of a pact, as many as the owner wants."""
    KIND = "rounds"

    def __init__(self, owner, body):
        check_party(owner)
        check_pact(body)
        check_size(body.weight + 1, body.depth + 1)
        self.owner = owner
        self.body = body
        self.weight = body.weight + 1
        self.depth = body.depth + 1
        self.text = f"{owner}[{body.text}]"


class Endless:
    """Rounds of a pact without end."""
    KIND = "endless"

    def __init__(self, body):
        check_pact(body)
        check_size(body.weight + 1, body.depth + 1)
        self.body = body
        self.weight = body.weight + 1
        self.depth = body.depth + 1
        self.text = f"[{body.text}]"


class Times:
    """A fixed number of rounds of a pact."""
    KIND = "times"

    def __init__(self, count, body):
        if not 0 <= count <= 100:
            raise BadCount(count)
        check_pact(body)
        weight = body.weight * max(1, count) + 1
        check_size(weight, body.depth + 1)
        self.count = count
        self.body = body
        self.weight = weight
        self.depth = body.depth + 1
        self.text = f"{count}({body.text})"


class Pact:
    """A sequence of parts, carried out one after the other."""

    def __init__(self, parts):
        for part in parts:
            check_part(part)
        weight = sum([part.weight for part in parts])
        depth = max([part.depth for part in parts], default=0)
        check_size(weight, depth)
        self.parts = tuple(parts)
        self.weight = weight
        self.depth = depth
        self.text = ", ".join([part.text for part in parts]) if len(parts) > 0 else "."

    def __add__(self, other):
        check_pact(other)
        return Pact([*self.parts, *other.parts])

    def __mul__(self, other):
        return Pact([Times(other, self)])

    def __eq__(self, other):
        return isinstance(other, Pact) and self.text == other.text

    def __len__(self):
        return len(self.parts)

    def __getitem__(self, at):
        return self.parts[at]

    def __iter__(self):
        return iter(self.parts)
