"""Days for events between bounds, or a ring of bounds that forces them further and further ([64])."""
from math import lcm

from signedpacts.errors import BadEvent


def check_events(many, bounds):
    """Raises BadEvent for the first bound that names a number that is not an event."""
    for at, (_, one, other, _) in enumerate(bounds):
        if not (0 <= one < many and 0 <= other < many):
            raise BadEvent(at)


def force_of(bound):
    """The event from which a bound forces, the event that it forces, and the rule by which it does."""
    word, one, other, rule = bound
    return (one, other, rule) if word == "from" else (other, one, rule.soonest())


def period_of_all(rules):
    """The least common multiple of the periods of the rules."""
    many = 1
    for rule in rules:
        many = lcm(many, rule.period)
    return many


def ring_of(records, last, period):
    """The walk of bounds that forces an event further by a period, and a day from which it does."""
    latest = {}
    walk = []
    place = last
    while place is not None:
        event, day, bound, before = records[place]
        if event not in latest:
            latest[event] = (day, len(walk))
        later, many = latest[event]
        if later - day >= period:
            return tuple(walk[many:][::-1]), day
        walk.append(bound)
        place = before
    return None


def plan_days(many, bounds, start):
    """("days", days) with the earliest days that keep the bounds, or ("ring", walk, day) if there are none."""
    check_events(many, bounds)
    forces = [force_of(bound) for bound in bounds]
    period = period_of_all([rule for _, _, _, rule in bounds])
    # A record is an event, a day on which it is at the earliest, the bound that forces this, and the record of the
    # event from which it does.
    records = [(event, start, None, None) for event in range(many)]
    now = list(range(many))
    rounds_made = 0
    looked = 1
    while True:
        further = list(now)
        for number, (source, target, rule) in enumerate(forces):
            day = rule(records[now[source]][1])
            if day > records[further[target]][1]:
                further[target] = len(records)
                records.append((target, day, number, now[source]))
        if further == now:
            return "days", tuple([records[place][1] for place in now])
        now = further
        rounds_made += 1
        # Each round adds one more link to a chain of forced events, so a chain that is long enough has some event
        # twice, forced further by a period between: then there is no end. Chains are looked at ever more seldom.
        if rounds_made == looked:
            found = ring_of(records, len(records) - 1, period)
            if found is not None:
                return "ring", *found
            looked = looked + rounds_made
