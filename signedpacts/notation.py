"""Reading written pacts ([36], [37])."""
from signedpacts.errors import BadText
from signedpacts.pacts import Choice, Endless, Event, Pact, Rounds, Times, Transfer
from signedpacts.words import tokens_of

MOST_BRACKETS = 30
MOST_OPTIONS = 6


class Bracket:
    """An open bracket: what it makes, its owner or count, the sign that closes it, and what was read in it."""

    def __init__(self, making, head, closer, pacts_read, parts_read):
        self.making = making
        self.head = head
        self.closer = closer
        self.pacts_read = pacts_read
        self.parts_read = parts_read


class Point:
    """How far a text has been read. It is never changed, so that an operator can read texts, too.

    `expected` tells what can stand next: the start of a "pact" or of a "part", the "bracket" behind an owner or
    a count, what stands "behind" a part, or what stands behind the "empty" pact. `head` is the owner or the count
    that was read last, `brackets` has the open brackets, the whole text as the first one.
    """

    def __init__(self, expected, head, head_kind, brackets):
        self.expected = expected
        self.head = head
        self.head_kind = head_kind
        self.brackets = brackets


# What reads a token returns the point behind it and the orders that are complete with it, or None if the token
# cannot stand there. An order is a tuple (kind, head, how many contents), behind the orders for what it contains.

def after_token(point, kind, word):
    """Reads one token."""
    if point.expected in ("pact", "part"):
        return after_start(point, kind, word)
    if point.expected == "bracket":
        return after_bracket(point, kind)
    return after_behind(point, kind)


def after_start(point, kind, word):
    """Reads the first token of a pact or of a part."""
    if kind == "." and point.expected == "pact":
        return Point("empty", "", "", point.brackets), []
    if kind in ("transfer", "event"):
        return Point("behind", "", "", with_part(point.brackets)), [(kind, word, 0)]
    if kind in ("owner", "count"):
        return Point("bracket", word, kind, point.brackets), []
    return begun(point, "endless", "", "]") if kind == "[" else None


def after_bracket(point, kind):
    """Reads the bracket behind an owner or a count."""
    if kind == "(":
        return begun(point, "choice" if point.head_kind == "owner" else "times", point.head, ")")
    if kind == "[" and point.head_kind == "owner":
        return begun(point, "rounds", point.head, "]")
    return None


def after_behind(point, kind):
    """Reads what stands behind a part or behind the empty pact."""
    bracket = point.brackets[-1]
    if kind == "," and point.expected == "behind":
        return Point("part", "", "", point.brackets), []
    ending = ("pact", "", bracket.parts_read)
    if kind == "|" and bracket.making == "choice" and bracket.pacts_read < MOST_OPTIONS - 1:
        more = Bracket(bracket.making, bracket.head, bracket.closer, bracket.pacts_read + 1, 0)
        return Point("pact", "", "", (*point.brackets[:-1], more)), [ending]
    if kind != bracket.closer or (bracket.making == "choice" and bracket.pacts_read == 0):
        return None
    whole = (bracket.making, bracket.head, bracket.pacts_read + 1)
    return Point("behind", "", "", with_part(point.brackets[:-1])), [ending, whole]


def begun(point, making, head, closer):
    """Opens a bracket, unless too many would be open."""
    # The first one is the whole text.
    if len(point.brackets) > MOST_BRACKETS:
        return None
    return Point("pact", "", "", (*point.brackets, Bracket(making, head, closer, 0, 0))), []


def with_part(brackets):
    """The brackets when one more part is complete in the last one."""
    last = brackets[-1]
    more = Bracket(last.making, last.head, last.closer, last.pacts_read, last.parts_read + 1)
    return (*brackets[:-1], more)


def orders_of(text):
    """The orders for a text; raises BadText if it is not a written pact."""
    orders = []
    point = Point("pact", "", "", (Bracket("whole", "", "", 0, 0),))
    for at, kind, word in tokens_of(text):
        found = after_token(point, kind, word)
        if found is None:
            raise BadText(at)
        point, ready = found
        orders.extend(ready)
    if len(point.brackets) > 1 or point.expected not in ("behind", "empty"):
        raise BadText(len(text))
    orders.append(("pact", "", point.brackets[0].parts_read))
    return orders


def made_thing(kind, head, contents):
    """The part or the pact of one order."""
    if kind == "transfer":
        return Transfer(head[0], head[1], int(head[2:]))
    if kind == "event":
        return Event(head)
    if kind == "pact":
        return Pact(contents)
    if kind == "choice":
        return Choice(head, contents)
    if kind == "rounds":
        return Rounds(head, contents[0])
    return Endless(contents[0]) if kind == "endless" else Times(int(head), contents[0])


def made_pact(orders):
    """The pact that the orders make; the last one of them is the whole."""
    ready = []
    for kind, head, many in orders:
        first = len(ready) - many
        contents = list(ready[first:])
        del ready[first:]
        ready.append(made_thing(kind, head, contents))
    return ready[0]


def parse_pact(text):
    """The pact that the text writes."""
    return made_pact(orders_of(text))
