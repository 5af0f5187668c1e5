"""Views that grow round by round ([72])."""
from signedpacts.errors import Unmatched
from signedpacts.exchanges import Exchange, check_end


def last_arrival(view):
    """The number of the round in which the last letter arrived, or -1 if none has."""
    _, other, known, _ = view
    return -1 if other is None else len(known)


def fates_from(first, second):
    """The only fates that can show the two views to the two ends, if any do.

    An end knows the fates of all rounds before its last letter. Behind the last letter of both ends, none arrived.
    """
    mine = last_arrival(first)
    its = last_arrival(second)
    if mine == its:
        return first[2] + ("b" if mine >= 0 else "") + "n" * first[3]
    if mine > its:
        return first[2] + "f" + "n" * first[3]
    return second[2] + "s" + "n" * second[3]


def exchange_shown(first, second):
    """The exchange that shows the two views to the two ends; raises Unmatched if there is none."""
    found = Exchange(first[0], second[0], fates_from(first, second))
    if found.seen("first") != first or found.seen("second") != second:
        raise Unmatched()
    return found


def grow(end, view, letter):
    """The view of the end after one more round, with the letter that arrives or None if it is lost."""
    check_end(end)
    own, other, known, silent = view
    if letter is None:
        return own, other, known, silent + 1
    views = {"first": tuple(letter), "second": tuple(letter)}
    views[end] = tuple(view)
    found = exchange_shown(views["first"], views["second"])
    return own, letter[0], found.fates, 0
