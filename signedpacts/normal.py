"""The normal form of a machine: no needless states, no two states alike, one numbering.

Rows are lists of entries, the number of a state or None. The start is state 0.
"""


def sources(rows):
    """For each state the states that have it as an entry, once for each such entry."""
    found = [[] for _ in rows]
    for state, row in enumerate(rows):
        for entry in row:
            if entry is not None:
                found[entry].append(state)
    return found


def sources_by_letter(rows):
    """For each letter the sources that lead to the states by this letter."""
    many = len(rows[0]) if rows else 0
    return [sources([[row[letter]] for row in rows]) for letter in range(many)]


def met_states(rows):
    """The states that can be reached from state 0, in the order in which they are first met."""
    order = [0]
    known = [False for _ in rows]
    known[0] = True
    at = 0
    while at < len(order):
        row = rows[order[at]]
        for entry in row:
            if entry is not None and not known[entry]:
                known[entry] = True
                order.append(entry)
        at += 1
    return order


def hopeful(rows, good):
    """For each state True if some good state can be reached from it, otherwise False."""
    back = sources(rows)
    hope = [False for _ in rows]
    waiting = []
    for state in good:
        hope[state] = True
        waiting.append(state)
    while waiting:
        before = back[waiting.pop()]
        for state in before:
            if not hope[state]:
                hope[state] = True
                waiting.append(state)
    return hope


def lasting(rows, good):
    """For each state True if one can go on from it without end, it and all states behind it being good."""
    ends = set(good)
    back = sources(rows)
    lasts = [state in ends for state in range(len(rows))]
    ways = [len([entry for entry in row if entry is not None and lasts[entry]]) for row in rows]
    waiting = [state for state in good if ways[state] == 0]
    for state in waiting:
        lasts[state] = False
    while waiting:
        before = back[waiting.pop()]
        for state in before:
            ways[state] = ways[state] - 1
            if lasts[state] and ways[state] == 0:
                lasts[state] = False
                waiting.append(state)
    return lasts


def halves(low, middle, high):
    """The ends of the smaller part, and behind them the ends of the greater one."""
    if middle - low <= high - middle:
        return low, middle, middle, high
    return middle, high, low, middle


def classes(rows, ends):
    """For each state the number of its class: the states of a class accept the same texts.

    From every state some end must be reachable. A class is split by the states that lead into another
    class. Of the two parts only the smaller one is looked at again, so this stays quick with many states.
    A class is what stands in `order` from its number in `low` up to its number in `high`.
    """
    back = sources_by_letter(rows)
    order = [state for state, end in enumerate(ends) if end] + [state for state, end in enumerate(ends) if not end]
    place = [0 for _ in rows]
    for at, state in enumerate(order):
        place[state] = at
    mine = [0 if end else 1 for end in ends]
    many_good = len([end for end in ends if end])
    low = [0, many_good]
    high = [many_good, len(ends)]
    waiting = [0, 1]
    while waiting:
        splitter = waiting.pop()
        inside = list(order[low[splitter]:high[splitter]])
        for before in back:
            fronts = {}
            for target in inside:
                for state in before[target]:
                    # The states that lead into the splitter are moved to the front of their class.
                    front = fronts.get(mine[state], low[mine[state]])
                    order[place[state]] = order[front]
                    place[order[front]] = place[state]
                    order[front] = state
                    place[state] = front
                    fronts[mine[state]] = front + 1
            for old, middle in fronts.items():
                if middle < high[old]:
                    start, stop, low[old], high[old] = halves(low[old], middle, high[old])
                    for state in order[start:stop]:
                        mine[state] = len(low)
                    waiting.append(len(low))
                    low.append(start)
                    high.append(stop)
    return mine


def normal_form(rows, good):
    """The rows, a tuple of tuples, and the ascending good states of the normal form."""
    hope = hopeful(rows, good)
    if not rows or not hope[0]:
        return (), ()
    # A state is met by its first text, and a class by the first text of its states. So the classes
    # have the order of the normal form already if the states are in the order in which they are met.
    kept = [state for state in met_states(rows) if hope[state]]
    number = {state: at for at, state in enumerate(kept)}
    small = [[number.get(entry) for entry in rows[state]] for state in kept]
    accepting = set(good)
    ends = [state in accepting for state in kept]
    mine = classes(small, ends)
    firsts = {}
    for place, group in enumerate(mine):
        firsts.setdefault(group, place)
    name = {group: at for at, group in enumerate(firsts)}
    order = list(firsts.values())
    new_rows = [tuple([None if entry is None else name[mine[entry]] for entry in small[state]]) for state in order]
    return tuple(new_rows), tuple([at for at, state in enumerate(order) if ends[state]])
