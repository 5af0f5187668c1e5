"""Rules of loss: which letters may be lost, and for how many rounds this keeps the ends from being sure ([70], [74]).

The rows of a rule are those of its `unending()`: an entry for each of the fates b, f, s and n. A layer has for a number
of rounds True or False for each state: whether it is passable for so many rounds.
"""
from signedpacts.errors import BadCount
from signedpacts.exchanges import FATES
from signedpacts.machines import Machine


def check_rounds(rounds):
    """Raises BadCount if the number of rounds is not 0 to 40."""
    if not 0 <= rounds <= 40:
        raise BadCount(rounds)


def loss_rows(rule):
    """The rows of a rule."""
    return rule.unending().rows


def is_free(layer, entry):
    """True if the entry of a row is a state that is passable as the layer says."""
    return entry is not None and layer[entry]


def can_pass(row, layer):
    """True if the state with this row is passable for one more round than the layer is for."""
    both, first_lost, second_lost, none = row
    if is_free(layer, none):
        return True
    return is_free(layer, both) and is_free(layer, first_lost) and is_free(layer, second_lost)


def first_layer(rows):
    """The layer for 0 rounds."""
    return [True for _ in rows]


def next_layer(rows, layer):
    """The layer for one more round."""
    return [can_pass(row, layer) for row in rows]


def layers_up_to(rows, rounds):
    """The layers for 0 rounds, for 1 round and so on."""
    layers = [first_layer(rows)]
    for _ in range(rounds):
        layers.append(next_layer(rows, layers[-1]))
    return layers


def states_in(layer):
    """The ascending states that are passable as the layer says."""
    return tuple([state for state, can in enumerate(layer) if can])


def has_chain(layer):
    """True if there is a chain for the number of rounds of the layer; an empty rule has no states."""
    return len(layer) > 0 and layer[0]


def swapped(rule):
    """The machine that accepts the allowed texts with f and s exchanged."""
    rows = [(both, second_lost, first_lost, none) for both, first_lost, second_lost, none in loss_rows(rule)]
    return Machine(FATES, rows)


def passable(rule, *, rounds):
    """The ascending states that are passable for that many rounds."""
    check_rounds(rounds)
    return states_in(layers_up_to(loss_rows(rule), rounds)[-1])


def closed_states(rule):
    """The ascending states of the greatest closed set."""
    rows = loss_rows(rule)
    layer = first_layer(rows)
    further = next_layer(rows, layer)
    # A state that is passable for more rounds is so for fewer, too. So when nothing changes, it never does.
    while further != layer:
        layer = further
        further = next_layer(rows, layer)
    return states_in(layer)


def rounds_needed(rule):
    """The fewest rounds in which the ends can be sure, or None."""
    rows = loss_rows(rule)
    layer = first_layer(rows)
    many = 0
    while has_chain(layer):
        further = next_layer(rows, layer)
        if further == layer:
            return None
        layer = further
        many += 1
    return many
