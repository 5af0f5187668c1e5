"""Day rules with few small days, made at random."""
from signedpacts.dayrules import DayRule


def some_rule(chance, periods=(1, 2, 3, 4, 6), least=-4, most=4):
    """A rule that leads each day by `least` to `most` days, about."""
    period = chance.choice(periods)
    while True:
        days = sorted(day + chance.randint(least, most) for day in range(period))
        if days[-1] <= days[0] + period:
            return DayRule(days)


def some_wait(chance, periods=(1, 2, 3, 4, 6), most=4):
    """A rule that leads no day to an earlier one."""
    return some_rule(chance, periods, 0, most) | DayRule([0])
