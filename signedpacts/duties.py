"""Duties that are often used ([53])."""
from signedpacts.errors import BadCount, BadMark
from signedpacts.machines import Machine, check_letters
from signedpacts.parties import check_marks


def check_duty(letters, marks):
    """Raises the first error of the letters of a duty, and of the marks that should be among them."""
    check_letters(letters)
    check_marks(letters)
    for mark in marks:
        if len(mark) != 1 or mark not in letters:
            raise BadMark(mark)


def never(letters, mark):
    """The duty that accepts the texts without the mark."""
    check_duty(letters, [mark])
    return Machine(letters, [[None if letter == mark else 0 for letter in letters]])


def only_after(letters, mark, earlier):
    """The duty that accepts the texts in which each `mark` has an `earlier` somewhere before it."""
    check_duty(letters, [mark, earlier])
    # A mark is no earlier mark of its own, so it is looked at first.
    waiting = [None if letter == mark else 1 if letter == earlier else 0 for letter in letters]
    return Machine(letters, [waiting, [1 for _ in letters]])


def answered(letters, mark, answer):
    """The duty that accepts the texts in which each `mark` has an `answer` somewhere behind it."""
    check_duty(letters, [mark, answer])
    # A mark does not answer itself, so it is looked at first.
    free = [1 if letter == mark else 0 for letter in letters]
    bound = [0 if letter == answer and letter != mark else 1 for letter in letters]
    return Machine(letters, [free, bound], [0])


def at_most(letters, mark, times):
    """The duty that accepts the texts in which the mark occurs at most that many times."""
    check_duty(letters, [mark])
    if not 0 <= times <= 9:
        raise BadCount(times)
    rows = []
    for seen in range(times + 1):
        further = seen + 1 if seen < times else None
        rows.append([further if letter == mark else seen for letter in letters])
    return Machine(letters, rows)
