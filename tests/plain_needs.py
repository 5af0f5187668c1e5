"""Plain reckonings with needs, number by number."""
from signedpacts.needs import Need

# Every need that `some_need` makes has only pairs below this number, apart from an open end.
REACH = 14


def value(fields, k):
    """The value of the function with these fields."""
    start, rises, never = fields
    if k is None or start is None:
        return never
    return start + sum(max(0, (k if high is None else min(k, high)) - low) for low, high in rises)


def order(k):
    """A key by which None is the greatest one."""
    return (1, 0) if k is None else (0, k)


def fields(need):
    return need.start, need.rises, need.never


def some_need(chance):
    """A need with few small pairs; sometimes open, sometimes None for all numbers."""
    if chance.random() < 0.08:
        return Need(None, (), None)
    ends = sorted(chance.sample(range(REACH), 2 * chance.randint(0, 3)))
    rises = [(low, high) for low, high in zip(ends[::2], ends[1::2])]
    start = chance.randint(0, 9)
    if chance.random() < 0.4:
        rises.append((chance.randint(ends[-1] + 1 if ends else 0, REACH), None))
        return Need(start, rises, None)
    greatest = start + sum(high - low for low, high in rises)
    return Need(start, rises, chance.choice([None, greatest, greatest + chance.randint(1, 9)]))


def orbit(need, k, many):
    """k, f(k), f(f(k)) and so on, that many of them."""
    found = [k]
    while len(found) < many:
        found.append(value(fields(need), found[-1]))
    return found
