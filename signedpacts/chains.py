"""Chains of exchanges, each alike to the next one to some end, that keep the ends from being sure ([73], [77])."""
from signedpacts.errors import NoChain, OutOfChain
from signedpacts.exchanges import Exchange
from signedpacts.losses import check_rounds, loss_rows


def shorter(one, other):
    """The smaller one of two lengths, where None means that there is none."""
    if one is None or other is None:
        return other if one is None else one
    return min(one, other)


def length_at(lengths, entry):
    """The length of the shortest passage of an entry, or None."""
    return None if entry is None else lengths[entry]


def wide_length(row, lengths):
    """The length of the shortest passage that begins with other fates than n, or None."""
    found = [length_at(lengths, entry) for entry in row[:3]]
    return None if None in found else sum(found)


def passage_lengths(rows, rounds):
    """For each number of rounds up to this one the lengths of the shortest passages of all states, None for none."""
    layers = [[1 for _ in rows]]
    for _ in range(rounds):
        last = layers[-1]
        layers.append([shorter(length_at(last, row[3]), wide_length(row, last)) for row in rows])
    return layers


def passage_text(rows, layers, position):
    """The text at a position of the shortest passage of state 0."""
    text = ""
    state = 0
    at = position
    for lengths in list(layers[:-1])[::-1]:
        both, first_lost, second_lost, none = rows[state]
        alone = length_at(lengths, none)
        wide = wide_length(rows[state], lengths)
        if wide is None or (alone is not None and alone <= wide):
            text = text + "n"
            state = none
        elif at < lengths[second_lost]:
            text = text + "s"
            state = second_lost
        elif at < lengths[second_lost] + lengths[both]:
            # The texts behind b come in reverse order.
            at = lengths[second_lost] + lengths[both] - 1 - at
            text = text + "b"
            state = both
        else:
            at = at - lengths[second_lost] - lengths[both]
            text = text + "f"
            state = first_lost
    return text


class Chain:
    """A shortest chain."""

    def __init__(self, rule, *, rounds):
        check_rounds(rounds)
        rows = loss_rows(rule)
        layers = passage_lengths(rows, rounds)
        if not rows or layers[-1][0] is None:
            raise NoChain()
        self._losses = rows
        self._layers = layers
        self._many = layers[-1][0]

    @property
    def length(self):
        """The number of exchanges."""
        return self._many + 2

    def __getitem__(self, at):
        if not 0 <= at < self._many + 2:
            raise OutOfChain(at)
        # The first text stands there with the bits 0 0, too, and the last one with 1 1.
        place = min(max(0, at - 1), self._many - 1)
        text = passage_text(self._losses, self._layers, place)
        return Exchange(1 if at > self._many else 0, 0 if at == 0 else 1, text)

    def __iter__(self):
        raise TypeError("a chain is not iterated over")
