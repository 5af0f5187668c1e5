"""Answers that come too late ([65])."""
from signedpacts.clocks import Clock, layers_of, text_of
from signedpacts.deadlines import period_of_all
from signedpacts.errors import BadWait
from signedpacts.histories import histories
from signedpacts.parties import MARKS, check_mark


def check_waits(waits):
    """Raises BadWait for the first mark, from A to Z, whose rule leads some day to an earlier one."""
    for mark in MARKS:
        if mark in waits:
            rule = waits[mark]
            if any([rule(day) < day for day in range(rule.period)]):
                raise BadWait(mark)


def changes_of(rule, period):
    """For each remainder of days by how many days the rule leads on."""
    return [rule(day) - day for day in range(period)]


def first_lapse(pact, waits, mark, answer, rule):
    """The first text whose last event, an answer, lapses for some start, with the least such start, or None."""
    check_waits(waits)
    check_mark(mark)
    check_mark(answer)
    # A written pact has capital letters for its marks alone.
    letters = "".join([letter for letter in MARKS if letter in pact.text])
    if mark not in letters or answer not in letters:
        return None
    period = period_of_all([rule, *list(waits.values())])
    none = [0 for _ in range(period)]
    delays = [changes_of(waits[letter], period) if letter in waits else none for letter in letters]
    told = histories(pact, letters=letters).beginnings()
    clock = Clock(told.rows, delays, changes_of(rule, period), letters.find(mark), letters.find(answer))
    layers = layers_of(clock)
    return None if layers is None else text_of(clock, layers, letters)
