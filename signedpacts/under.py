"""The sums and counts that hold at the end of every done play that keeps a duty ([93])."""
from signedpacts.balances import check_columns, empty_row, row_of_part
from signedpacts.countsets import CountSet
from signedpacts.parties import check_marks
from signedpacts.routes import Routes
from signedpacts.rows import added, difference


def state_behind(duty, state, part):
    """The state of the duty behind a transfer, an event or nothing; None if the play cannot keep the duty any more."""
    if part is None or part.KIND == "transfer":
        return state
    letter = duty.letters.find(part.mark)
    return state if letter < 0 else duty.rows[state][letter]


def lines_of_places(routes):
    """For each place the lines that lead from it."""
    found = [[] for _ in range(routes.many)]
    for start, part, end in routes.lines:
        found[start].append((part, end))
    return found


def links_kept(routes, duty):
    """The links that plays can take while they can keep the duty: (point, part, point), in the order they are met.

    A point is a pair of a place and a state of the duty. Plays that keep the duty end in the point None.
    """
    leads = lines_of_places(routes)
    links = []
    met = {(0, 0): True}
    waiting = [(0, 0)]
    while waiting:
        point = waiting.pop()
        place, state = point
        if place == routes.last and state in duty.good:
            links.append((point, None, None))
        for part, end in leads[place]:
            further = (end, state_behind(duty, state, part))
            if further[1] is not None:
                links.append((point, part, further))
                if further not in met:
                    met[further] = True
                    waiting.append(further)
    return links


def useful_links(links):
    """The links from which plays can still end as they should, in the same order."""
    sources = {}
    for start, _, end in links:
        sources.setdefault(end, []).append(start)
    useful = {None: True}
    waiting = [None]
    while waiting:
        before = sources.get(waiting.pop(), [])
        for point in before:
            if point not in useful:
                useful[point] = True
                waiting.append(point)
    return [link for link in links if link[2] in useful]


def balances_under(pact, duty, *, parties, marks):
    """The least count set that contains the balance rows of all done plays that keep the duty."""
    check_marks(duty.letters)
    check_columns(parties, marks)
    none = empty_row(parties, marks)
    links = useful_links(links_kept(Routes(pact), duty)) if duty.rows else []
    # A row for each point: that of one way to it. Another way to the end differs from a way along these rows by
    # what its links change about them, and each such change is what two ways to the end differ by.
    rows = {(0, 0): none}
    changes = {}
    for start, part, end in links:
        row = rows[start] if part is None else added([rows[start], row_of_part(part, parties, marks)])
        changes[difference(row, rows.setdefault(end, row))] = True
    return CountSet(len(none), start=rows.get(None), steps=list(changes))
