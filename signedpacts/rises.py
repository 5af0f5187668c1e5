"""Functions that rise by 0 or by 1 from each number to the next one ([26]).

Such a function is given by its value for 0 and by its rises, ascending pairs (low, high): it rises from k
to k + 1 exactly if low <= k < high for one of the pairs. The last `high` may be None: a rise without end.
"""


def are_rises(pairs):
    """True if the pairs are ascending and apart, and only the last one has no end."""
    before = -1
    for low, high in pairs:
        if before is None or low <= before or (high is not None and high <= low):
            return False
        before = high
    return True


def is_open(rises):
    """True if the last rise has no end."""
    return len(rises) > 0 and rises[-1][1] is None


def values_at_lows(start, rises):
    """The value at the low end of each pair."""
    found = []
    value = start
    for low, high in rises:
        found.append(value)
        if high is not None:
            value = value + high - low
    return tuple(found)


def greatest_value(start, rises):
    """The greatest value of a function without an open rise."""
    return start + sum([high - low for low, high in rises])


def pair_at(rises, k):
    """The index of the last pair whose low end is at most k, or -1."""
    first, behind = 0, len(rises)
    while first < behind:
        middle = (first + behind) // 2
        if rises[middle][0] <= k:
            first = middle + 1
        else:
            behind = middle
    return first - 1


def value_at(start, rises, values, k):
    """The value for k, where `values` are those at the low ends."""
    at = pair_at(rises, k)
    if at < 0:
        return start
    low, high = rises[at]
    return values[at] + (k if high is None else min(k, high)) - low


def flat_place(rises, number):
    """The k from which the function does not rise for the time with this number, counted from 0, or None."""
    left = number
    before = 0
    for low, high in rises:
        if left < low - before:
            return before + left
        if high is None:
            return None
        left = left - (low - before)
        before = high
    return before + left


def rise_place(rises, number):
    """The k from which the function rises for the time with this number, counted from 0, or None."""
    left = number
    for low, high in rises:
        if high is None or left < high - low:
            return low + left
        left = left - (high - low)
    return None


def sooner(one, other):
    """The smaller one of two ends, where None is no end."""
    if one is None or other is None:
        return other if one is None else one
    return min(one, other)


def composed(outer, start, inner):
    """The rises of the one function of the values of the inner one, which begin with `start`."""
    found = []
    value = start
    at = 0
    for low, high in inner:
        stop = None if high is None else value + high - low
        while at < len(outer) and outer[at][1] is not None and outer[at][1] <= value:
            at += 1
        # The last one of these outer pairs may reach beyond, so the next inner pair begins with `at` again.
        here = at
        while here < len(outer) and (stop is None or outer[here][0] < stop):
            end = sooner(outer[here][1], stop)
            found.append((low + max(outer[here][0], value) - value, None if end is None else low + end - value))
            here += 1
        value = stop
    return tuple(found)


def slopes_behind(rises, cuts):
    """For each of the ascending cuts 1 if the function rises behind it, otherwise 0."""
    found = []
    at = 0
    for cut in cuts:
        while at < len(rises) and rises[at][1] is not None and rises[at][1] <= cut:
            at += 1
        found.append(1 if at < len(rises) and rises[at][0] <= cut else 0)
    return found


def values_at_cuts(start, slopes, cuts):
    """The values at the ascending cuts, the first of which is 0."""
    found = [start]
    for at in range(len(cuts) - 1):
        found.append(found[at] + slopes[at] * (cuts[at + 1] - cuts[at]))
    return found


def side_by_side(one_start, one, other_start, other):
    """Pieces in which both functions either rise all the way or not at all.

    They are tuples (low, high, value at low, slope, value of the other one, its slope); the last `high` is None.
    """
    ends = [end for pair in [*one, *other] for end in pair if end is not None]
    cuts = sorted(set([0, *ends]))
    slopes = slopes_behind(one, cuts)
    other_slopes = slopes_behind(other, cuts)
    values = values_at_cuts(one_start, slopes, cuts)
    other_values = values_at_cuts(other_start, other_slopes, cuts)
    return list(zip(cuts, [*cuts[1:], None], values, slopes, other_values, other_slopes))


def joined(spans):
    """The spans, those that touch each other being made one."""
    found = []
    for low, high in spans:
        if found and found[-1][1] == low:
            found[-1] = (found[-1][0], high)
        else:
            found.append((low, high))
    return tuple(found)


def rises_of_smaller(pieces):
    """The rises of the smaller one of both functions for each k."""
    spans = []
    for low, high, one, slope, other, other_slope in pieces:
        # Where only one of them rises, it is the smaller one until it has caught up with the other one.
        lead = other - one if slope else one - other
        if slope and other_slope:
            spans.append((low, high))
        elif slope != other_slope and lead > 0:
            spans.append((low, sooner(high, low + lead)))
    return joined(spans)


def rises_of_greater(pieces):
    """The rises of the greater one of both functions for each k."""
    spans = []
    for low, high, one, slope, other, other_slope in pieces:
        # Where only one of them rises, it is the greater one after it has caught up with the other one.
        lead = max(0, other - one if slope else one - other)
        if slope and other_slope:
            spans.append((low, high))
        elif slope != other_slope and (high is None or low + lead < high):
            spans.append((low + lead, high))
    return joined(spans)


def first_above(pieces):
    """The least k for which the one function is greater than the other one, or None."""
    for low, high, one, slope, other, other_slope in pieces:
        if one > other:
            return low
        met = low + other - one + 1
        if slope > other_slope and (high is None or met <= high):
            return met
    return None
