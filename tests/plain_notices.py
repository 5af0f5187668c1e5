"""Plain reckonings with letters that may be lost: all exchanges of a few rounds, and what leads from one to another."""
from signedpacts.exchanges import Exchange
from signedpacts.machines import Machine
from tests.plain import all_texts

ENDS = ("first", "second")
FATES = "bfsn"
ARRIVES = {"first": "bf", "second": "bs"}

# Everything may be lost; at most one letter of a round is lost; at most one letter is lost altogether, and others.
NAMED_RULES = {
    "all": [[0, 0, 0, 0]], "one": [[0, 0, 0, None]], "first": [[0, 0, None, None]], "second": [[0, None, 0, None]],
    "none": [[0, None, None, None]], "nothing": [[None, None, None, 0]], "once": [[0, 1, 1, None], [1, None, None, None]],
    "empty": [], "dead": [[1, 1, 1, 1], [None, None, None, None]], "late": [[1, 1, 1, None], [0, None, None, None]],
    "twice": [[0, 1, 1, None], [1, 2, 2, None], [2, None, None, None]],
    # An end can be tied while the other one is not, and the fate that both letters arrive may be allowed, but not open.
    "crossed": [[1, 2, None, None], [None, 2, 2, None], [2, None, None, 2]],
    "turned": [[1, None, 2, None], [None, 2, 2, None], [2, None, None, 2]],
    # A passage can begin with n, but another one is shorter.
    "detour": [[2, 2, 2, 1], [1, 1, 1, None], [None, None, None, 2]],
    "deep": [[1, 1, 1, None], [2, 2, 2, None], [3, 3, 3, None], [3, None, None, None]],
}


def named_rule(name):
    return Machine(FATES, NAMED_RULES[name])


def some_rule(chance, most=4):
    """A rule of loss, seldom an empty one."""
    many = chance.randint(1, most)
    gaps = chance.choice([0.1, 0.3, 0.5, 0.7])
    rows = [[None if chance.random() < gaps else chance.randrange(many) for _ in FATES] for _ in range(many)]
    return Machine(FATES, rows, [state for state in range(many) if chance.random() < 0.95])


def layered_rule(chance):
    """A rule under which the fates that are allowed change from round to round."""
    many = chance.randint(2, 4)
    rows = []
    for layer in range(many):
        allowed_here = [fate for fate in FATES if chance.random() < 0.5] or ["b"]
        nexts = [min(many - 1, layer + 1), chance.randint(layer, many - 1)]
        rows.append([chance.choice(nexts) if fate in allowed_here else None for fate in FATES])
    return Machine(FATES, rows)


def reads_all(rule, text):
    """True if the rule accepts all beginnings of the text."""
    return all(text[:many] in rule for many in range(len(text) + 1))


def allowed(rule, rounds):
    """The allowed texts of so many fates: those that can be read on without end."""
    found = [text for text in ("",) if reads_all(rule, text)]
    for _ in range(rounds):
        found = [text + fate for text in found for fate in FATES if text + fate in rule]
    # What can be read on for as many fates as there are states can be read on without end.
    return [text for text in found if goes_on(rule, [text], len(rule.rows) + 1)]


def goes_on(rule, texts, many):
    for _ in range(many):
        shortest = {rule.after(text + fate): text + fate for text in texts for fate in FATES if text + fate in rule}
        texts = list(shortest.values())
    return len(texts) > 0


def plain_view(exchange, end):
    """What an end has seen, told as [71] says it."""
    bits = {"first": exchange.first_bit, "second": exchange.second_bit}
    own, other = bits[end], bits[ENDS[1 - ENDS.index(end)]]
    known, silent, heard = "", 0, None
    for at, fate in enumerate(exchange.fates):
        if fate in ARRIVES[end]:
            known, silent, heard = exchange.fates[:at], 0, other
        else:
            silent += 1
    return own, heard, known, silent


class Links:
    """Exchanges, and which of them are alike to some end."""

    def __init__(self, exchanges):
        self.exchanges = exchanges
        self.views = [[(end, plain_view(one, end)) for end in ENDS] for one in exchanges]
        self.showing = {}
        for at, views in enumerate(self.views):
            for view in views:
                self.showing.setdefault(view, []).append(at)

    def steps_to(self, starts):
        """For each exchange that can be reached from the starts in how many steps."""
        found = {at: 0 for at in starts}
        waiting, used = list(starts), set()
        for at in waiting:
            for view in self.views[at]:
                if view not in used:
                    used.add(view)
                    for other in self.showing[view]:
                        if other not in found:
                            found[other] = found[at] + 1
                            waiting.append(other)
        return found

    def with_bits(self, first, second):
        return [at for at, one in enumerate(self.exchanges) if (one.first_bit, one.second_bit) == (first, second)]


def links_of(texts, bits=((0, 0), (0, 1), (1, 0), (1, 1))):
    return Links([Exchange(first, second, text) for first, second in bits for text in texts])


def shortest_chain(rule, rounds):
    """The number of exchanges in a shortest chain, or None."""
    links = links_of(allowed(rule, rounds))
    reached = links.steps_to(links.with_bits(0, 0))
    return min((reached[at] + 1 for at in links.with_bits(1, 1) if at in reached), default=None)


def tied_views(rule, rounds, first, second):
    """The views, with their ends, that are tied to the silence of the second end, when both have these bits."""
    links = links_of(allowed(rule, rounds), [(first, second)])
    silent = [at for at, one in enumerate(links.exchanges) if not set(one.fates) & set(ARRIVES["second"])]
    return {view for at in links.steps_to(silent) for view in links.views[at]}
