"""Reading written pacts ([36], [37])."""
from signedpacts.errors import BadText
from signedpacts.pacts import Choice, Endless, Event, Pact, Rounds, Times, Transfer
from signedpacts.words import tokens_of

MOST_BRACKETS = 30
MOST_OPTIONS = 6


class Bracket:
    """An open bracket: what it makes, its owner or count, the sign that closes it, and what was read in it."""

    def __init__(self, making, head, closer):
        self.making = making
        self.head = head
        self.closer = closer
        self.pacts_read = 0
        self.parts_read = 0


class Reader:
    """Reads tokens and writes down orders, each behind those for what it contains: (kind, head, how many contents).

    `expected` tells what can stand next: the start of a "pact" or of a "part", the "bracket" behind an owner or
    a count, what stands "behind" a part, or what stands behind the "empty" pact.
    """

    def __init__(self):
        self.orders = []
        self.expected = "pact"
        self.head = ""
        self.head_kind = ""
        self.brackets = [Bracket("whole", "", "")]

    def take(self, kind, word):
        """Reads one token; returns False if it cannot stand here."""
        if self.expected in ("pact", "part"):
            return self.take_start(kind, word)
        if self.expected == "bracket":
            return self.take_bracket(kind)
        return self.take_behind(kind)

    def take_start(self, kind, word):
        """Reads the first token of a pact or of a part."""
        if kind == "." and self.expected == "pact":
            self.expected = "empty"
            return True
        if kind in ("transfer", "event"):
            self.add_part(kind, word, 0)
            return True
        if kind in ("owner", "count"):
            self.head = word
            self.head_kind = kind
            self.expected = "bracket"
            return True
        return kind == "[" and self.begin("endless", "", "]")

    def take_bracket(self, kind):
        """Reads the bracket behind an owner or a count."""
        if kind == "(":
            return self.begin("choice" if self.head_kind == "owner" else "times", self.head, ")")
        return kind == "[" and self.head_kind == "owner" and self.begin("rounds", self.head, "]")

    def take_behind(self, kind):
        """Reads what stands behind a part or behind the empty pact."""
        bracket = self.brackets[-1]
        if kind == "," and self.expected == "behind":
            self.expected = "part"
            return True
        if kind == "|" and bracket.making == "choice" and bracket.pacts_read < MOST_OPTIONS - 1:
            self.end_pact()
            self.expected = "pact"
            return True
        if kind != bracket.closer or (bracket.making == "choice" and bracket.pacts_read == 0):
            return False
        self.end_pact()
        self.brackets.pop()
        self.add_part(bracket.making, bracket.head, bracket.pacts_read)
        return True

    def begin(self, making, head, closer):
        """Opens a bracket; returns False if too many would be open."""
        # The first one is the whole text.
        if len(self.brackets) > MOST_BRACKETS:
            return False
        self.brackets.append(Bracket(making, head, closer))
        self.expected = "pact"
        return True

    def add_part(self, kind, head, contents):
        """Writes down a part that is complete."""
        bracket = self.brackets[-1]
        self.orders.append((kind, head, contents))
        bracket.parts_read += 1
        self.expected = "behind"

    def end_pact(self):
        """Writes down a pact that is complete."""
        bracket = self.brackets[-1]
        self.orders.append(("pact", "", bracket.parts_read))
        bracket.parts_read = 0
        bracket.pacts_read += 1

    def finish(self):
        """Reads the end of the text; returns False if it comes too early."""
        if len(self.brackets) > 1 or self.expected not in ("behind", "empty"):
            return False
        self.end_pact()
        return True


def made_thing(kind, head, contents):
    """The part or the pact of one order."""
    if kind == "transfer":
        return Transfer(head[0], head[1], int(head[2:]))
    if kind == "event":
        return Event(head)
    if kind == "pact":
        return Pact(contents)
    if kind == "choice":
        return Choice(head, contents)
    if kind == "rounds":
        return Rounds(head, contents[0])
    return Endless(contents[0]) if kind == "endless" else Times(int(head), contents[0])


def made_pact(orders):
    """The pact that the orders make; the last one of them is the whole."""
    ready = []
    for kind, head, many in orders:
        first = len(ready) - many
        contents = list(ready[first:])
        del ready[first:]
        ready.append(made_thing(kind, head, contents))
    return ready[0]


def parse_pact(text):
    """The pact that the text writes."""
    reader = Reader()
    for at, kind, word in tokens_of(text):
        if not reader.take(kind, word):
            raise BadText(at)
    if not reader.finish():
        raise BadText(len(text))
    return made_pact(reader.orders)
