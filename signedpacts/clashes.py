"""Duties that clash in a pact, and duties that others make needless ([55], [56])."""
from signedpacts.errors import LettersDiffer
from signedpacts.histories import histories
from signedpacts.parties import check_marks


def check_alike(machines):
    """Raises BadMark for the letters of each machine in turn, then LettersDiffer if they are not all equal."""
    for machine in machines:
        check_marks(machine.letters)
    if any([machine.letters != machines[0].letters for machine in machines]):
        raise LettersDiffer()


def first_clash(pact, one, other):
    """The first text behind which the duties clash, or None."""
    check_alike([one, other])
    told = histories(pact, letters=one.letters)
    keep_one = told & one
    keep_other = told & other
    keep_both = keep_one & other
    return ((keep_one.beginnings() & keep_other.beginnings()) - keep_both.beginnings()).first_text()


def next_states(machines, states, at):
    """The states behind the letter with this index, for each machine; None where it cannot be read."""
    return tuple([None if state is None else machine.rows[state][at] for machine, state in zip(machines, states)])


def good_states(machine):
    """For each state True if a text may end in it, otherwise False."""
    good = set(machine.good)
    return [state in good for state in range(len(machine.rows))]


def is_needless(told, others, duty):
    """True if every text that `told` and the others accept is accepted by the duty, too."""
    machines = [told, *others, duty]
    goods = [good_states(machine) for machine in machines]
    start = tuple([0 if machine.rows else None for machine in machines])
    met = {start: True}
    waiting = [start]
    while waiting:
        states = waiting.pop()
        # The duty may have lost its state; without a state of the others no text is left.
        if any([state is None for state in states[:-1]]):
            continue
        ends = [state is not None and good[state] for good, state in zip(goods, states)]
        if all(ends[:-1]) and not ends[-1]:
            return False
        for at in range(len(told.letters)):
            further = next_states(machines, states, at)
            if further not in met:
                met[further] = True
                waiting.append(further)
    return True


def core(pact, duties):
    """The ascending indexes of the duties that are left when those that the others make needless are left out."""
    if len(duties) == 0:
        return ()
    check_alike(duties)
    told = histories(pact, letters=duties[0].letters)
    kept = list(range(len(duties)))
    for number in reversed(range(len(duties))):
        rest = [one for one in kept if one != number]
        if is_needless(told, [duties[one] for one in rest], duties[number]):
            kept = rest
    return tuple(kept)
