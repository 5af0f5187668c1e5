"""Sets of states as masks, and how machines are read in which a letter may lead to several states."""
from signedpacts.normal import sources_by_letter


def mask_of(states):
    """The mask in which just the bits with these numbers are set."""
    mask = 0
    for state in states:
        mask = mask | (1 << state)
    return mask


def members(mask):
    """The ascending numbers of the bits that are set in the mask."""
    found = []
    while mask:
        lowest = mask & -mask
        found.append(lowest.bit_length() - 1)
        mask = mask ^ lowest
    return found


def leaves_out(rows, ends, one, other):
    """True if at once, or behind one letter, the state `one` goes on where `other` does not."""
    if ends[one] and not ends[other]:
        return True
    return any([mine is not None and its is None for mine, its in zip(rows[one], rows[other])])


def lower_states(rows, good):
    """For each state of a normal form the mask of the other states whose texts it accepts, too."""
    accepting = set(good)
    states = range(len(rows))
    ends = [state in accepting for state in states]
    waiting = [(low, high) for low in states for high in states if leaves_out(rows, ends, low, high)]
    fails = {pair: True for pair in waiting}
    back = sources_by_letter(rows)
    while waiting:
        one, other = waiting.pop()
        for before in back:
            for pair in [(low, high) for low in before[one] for high in before[other]]:
                if pair not in fails:
                    fails[pair] = True
                    waiting.append(pair)
    return [mask_of([low for low in states if low != state and (low, state) not in fails]) for state in states]


def subsets(moves, start, lower):
    """The rows that read a machine in which a letter leads to several states, and a mask for each row.

    `moves` has for each letter and state the mask of the states behind it, `start` is the mask at the
    beginning. `lower` has for each state the mask of states that add nothing beside it: to leave them
    out keeps masks alike that would else be many.
    """
    masks = [start]
    number = {0: None, start: 0}
    rows = []
    while len(rows) < len(masks):
        here = members(masks[len(rows)])
        row = []
        for behind in moves:
            mask = 0
            for state in here:
                mask = mask | behind[state]
            for state in members(mask):
                mask = mask & ~lower[state]
            if mask not in number:
                number[mask] = len(masks)
                masks.append(mask)
            row.append(number[mask])
        rows.append(row)
    return rows, masks
