"""Setting debts off in rings ([67]).

A *step* leads from one party to another one. It lowers what the other one owes the one, or else, where this has been
lowered before, it raises what the one owes the other one again. A ring of steps leaves all that parties are owed and
owe together as it is.
"""
from signedpacts.debts import check_debts, in_order
from signedpacts.parties import PARTIES


def step_change(before, rest, one, other):
    """What a step from the one party to the other adds to the sum of all debts for each coin; None without a step."""
    if rest.get(other + one, 0) > 0:
        return -1
    return 1 if rest.get(one + other, 0) < before.get(one + other, 0) else None


def changes_between(before, rest):
    """For each pair of parties between which there is a step what it adds for each coin."""
    pairs = [one + other for one in PARTIES for other in PARTIES if one != other]
    changes = {pair: step_change(before, rest, pair[0], pair[1]) for pair in pairs}
    return {pair: change for pair, change in changes.items() if change is not None}


def walks_from(changes, start):
    """For each number of steps from 2 to 6 the walk back to the start that adds least: (what it adds, its parties)."""
    walks = {start: (0, start)}
    found = []
    for _ in PARTIES:
        further = {}
        for pair, change in changes.items():
            if pair[0] in walks:
                total, parties = walks[pair[0]]
                if pair[1] not in further or total + change < further[pair[1]][0]:
                    further[pair[1]] = (total + change, parties + pair[1])
        walks = further
        if start in walks:
            found.append(walks[start])
    return found


def best_ring(changes):
    """The parties of the shortest ring among those that lower most for each of their steps, or None.

    To take these rings keeps their number small, however great the debts are.
    """
    found = [(total, ring) for start in PARTIES for total, ring in walks_from(changes, start) if total < 0]
    if not found:
        return None
    best_total, best = found[0]
    for total, ring in found:
        # What is added for each step is compared; a ring has one letter more than steps.
        mine = total * (len(best) - 1)
        its = best_total * (len(ring) - 1)
        if mine < its or (mine == its and len(ring) < len(best)):
            best_total = total
            best = ring
    return best


def after_ring(before, rest, changes, ring):
    """What is left when as much as possible is set off in the ring."""
    steps = [ring[at:at + 2] for at in range(len(ring) - 1)]
    pairs = [step[::-1] if changes[step] < 0 else step for step in steps]
    room = [rest[pair] if changes[step] < 0 else before[pair] - rest[pair] for step, pair in zip(steps, pairs)]
    coins = min(room)
    left = dict(rest)
    for step, pair in zip(steps, pairs):
        left[pair] = left[pair] + changes[step] * coins
    return left


def heights_of(changes):
    """Heights of the parties, none of which is higher than another one by more than a step between them adds."""
    heights = {party: 0 for party in PARTIES}
    for _ in PARTIES:
        for pair, change in changes.items():
            heights[pair[0]] = min(heights[pair[0]], heights[pair[1]] + change)
    return tuple([heights[party] for party in PARTIES])


def set_off(debts):
    """Debts that may be left when debts are set off in rings, and heights that show that their sum is least."""
    check_debts(debts)
    before = in_order(debts)
    rest = dict(before)
    changes = changes_between(before, rest)
    ring = best_ring(changes)
    while ring is not None:
        rest = after_ring(before, rest, changes, ring)
        changes = changes_between(before, rest)
        ring = best_ring(changes)
    return in_order(rest), heights_of(changes)
