"""Deciding on a bit after letters that may be lost ([75], [76])."""
from signedpacts.errors import CannotDecide, NeverSeen
from signedpacts.exchanges import ARRIVING, FATES, check_end
from signedpacts.losses import check_rounds, has_chain, is_free, layers_up_to, loss_rows, rounds_needed


def targets(rows, states, fates):
    """The states behind some of the states and one of the fates, each once."""
    found = {}
    for state in states:
        for fate in fates:
            entry = rows[state][FATES.find(fate)]
            if entry is not None:
                found[entry] = True
    return list(found)


def lost_fates(end):
    """The fates with which no letter arrives at the end."""
    return "".join([fate for fate in FATES if fate not in ARRIVING[end]])


def is_seen(rows, end, view, rounds):
    """True if an exchange with allowed fates for that many rounds shows the view to the end."""
    _, other, known, silent = view
    if not rows:
        return False
    states = [0]
    if other is None:
        if known != "" or silent != rounds:
            return False
    else:
        if len(known) + 1 + silent != rounds:
            return False
        for fate in known:
            states = targets(rows, states, fate)
        states = targets(rows, states, ARRIVING[end])
    for _ in range(silent):
        states = targets(rows, states, lost_fates(end))
    return len(states) > 0


def behind_letter(row, layer, first_tied, second_tied):
    """Whether the first and the second end are tied behind a round, each if a letter arrives at it.

    The row is that of the state before the round, the layer the one for the rounds that are left behind it.
    """
    both, first_lost, second_lost, _ = [is_free(layer, entry) for entry in row]
    first = (first_lost and second_tied) or (both and second_lost and first_tied)
    second = (second_lost and first_tied) or (both and first_lost and second_tied)
    return first, second


def is_tied(rows, layers, end, known):
    """True if the view of an end with these known fates, and a letter behind them, is tied to the second's silence."""
    left = len(layers) - 1
    first_tied = False
    second_tied = True
    state = 0
    for fate in known:
        left -= 1
        first, second = behind_letter(rows[state], layers[left], first_tied, second_tied)
        first_tied = first if fate in ARRIVING["first"] else first_tied
        second_tied = second if fate in ARRIVING["second"] else second_tied
        state = rows[state][FATES.find(fate)]
    first, second = behind_letter(rows[state], layers[left - 1], first_tied, second_tied)
    return first if end == "first" else second


class Decider:
    """Decides for both ends, so that they surely decide on the same bit."""

    def __init__(self, rule, *, rounds=None):
        if rounds is not None:
            check_rounds(rounds)
        many = rounds_needed(rule) if rounds is None else rounds
        if many is None:
            raise CannotDecide()
        rows = loss_rows(rule)
        layers = layers_up_to(rows, many)
        if has_chain(layers[-1]):
            raise CannotDecide()
        self._losses = rows
        self._layers = layers
        self._many = many

    @property
    def round_count(self):
        """The number of rounds after which it decides."""
        return self._many

    def __call__(self, end, view):
        check_end(end)
        own, other, known, _ = view
        if not is_seen(self._losses, end, view, self._many):
            raise NeverSeen(view)
        if other is None or other == own:
            return own
        tied = is_tied(self._losses, self._layers, end, known)
        # The second end's bit is decided on if the view is tied to its silence.
        return other if tied == (end == "first") else own
