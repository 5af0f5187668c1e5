"""Machines side by side, one behind the other, and one again and again."""
from signedpacts.subsets import lower_states, mask_of, subsets


def row_at(rows, state, width):
    """The row of a state; the state None has only entries None."""
    return [None] * width if state is None else rows[state]


def paired(one, two, width):
    """The rows that read two machines at once, and the pair of their states for each row."""
    first = (0 if one else None, 0 if two else None)
    pairs = [first]
    number = {(None, None): None}
    number[first] = 0
    rows = []
    while len(rows) < len(pairs):
        left, right = pairs[len(rows)]
        row = []
        for pair in zip(row_at(one, left, width), row_at(two, right, width)):
            if pair not in number:
                number[pair] = len(pairs)
                pairs.append(pair)
            row.append(number[pair])
        rows.append(row)
    return rows, pairs


def moves_by_letter(rows, gates, width):
    """For each letter and state the mask behind it; `gates` has the mask for each state that is entered."""
    return [[0 if row[letter] is None else gates[row[letter]] for row in rows] for letter in range(width)]


def accepting_rows(masks, ends):
    """The numbers of the masks that have a bit in common with `ends`."""
    return [at for at, mask in enumerate(masks) if mask & ends]


def is_whole(rows, good, state):
    """True if the state of a normal form accepts all texts. Such a state leads to itself only."""
    return state in good and all([entry == state for entry in rows[state]])


def concatenated(left, left_good, right, right_good, width):
    """The rows and good states that accept the texts of the left followed by texts of the right normal form."""
    if not left or not right:
        return [], []
    shift = len(left)
    accepting = set(left_good)
    start = 1 << shift
    left_gates = [(1 << state) | (start if state in accepting else 0) for state in range(shift)]
    right_gates = [start << state for state in range(len(right))]
    left_moves = moves_by_letter(left, left_gates, width)
    right_moves = moves_by_letter(right, right_gates, width)
    moves = [[*mine, *its] for mine, its in zip(left_moves, right_moves)]
    lower = [0 for _ in left]
    for state, mask in enumerate(lower_states(right, right_good)):
        # Beside a state that accepts all texts, the states of the left add nothing, either.
        rest = start - 1 if is_whole(right, right_good, state) else 0
        lower.append((mask << shift) | rest)
    rows, masks = subsets(moves, left_gates[0], lower)
    return rows, accepting_rows(masks, mask_of(right_good) << shift)


def repeated(rows, good, width):
    """The rows and good states that accept any number of texts of the normal form, one behind the other."""
    extra = len(rows)
    accepting = set(good)
    gates = [(1 << state) | (1 if state in accepting else 0) for state in range(extra)]
    # The extra state makes the empty text accepted at the beginning, and nothing else.
    moves = [[*behind, 0] for behind in moves_by_letter(rows, gates, width)]
    start = (1 if rows else 0) | (1 << extra)
    found, masks = subsets(moves, start, [*lower_states(rows, good), 0])
    return found, accepting_rows(masks, mask_of([*good, extra]))
