"""Day rules: which day follows from which ([59] to [63])."""
from math import lcm

from signedpacts.errors import BadCount, BadDays


def check_days(days):
    """Raises BadDays if the days are not those of a day rule."""
    for at in range(1, len(days)):
        if days[at] < days[at - 1]:
            raise BadDays(at)
    if len(days) == 0 or days[-1] > days[0] + len(days):
        raise BadDays(0)


def led(days, day):
    """Where the rule with these days leads the day."""
    many = len(days)
    return days[day % many] + day // many * many


def common_period(one, other):
    """The number of days after which both rules, given by their days, repeat."""
    return lcm(len(one), len(other))


def least_days(days):
    """The days for the least possible period."""
    many = len(days)
    for period in range(1, many):
        if many % period == 0 and all([led(days, at + period) == days[at] + period for at in range(many)]):
            return tuple(days[:period])
    return tuple(days)


def latest_days(days):
    """The days of the rule that leads D to the greatest day that is led to D or before it."""
    many = len(days)
    # Of all days with one remainder, the last one that is led to 0 or before it.
    day = max([rest - (first + many - 1) // many * many for rest, first in enumerate(days)])
    found = []
    for bound in range(many):
        while led(days, day + 1) <= bound:
            day = day + 1
        found.append(day)
    return found


def rings_of(days):
    """For each ring in which the remainders are led: how long it is, and the least remainder in it."""
    many = len(days)
    walk = [None for _ in days]
    found = []
    for start in range(many):
        path = []
        rest = start
        while walk[rest] is None:
            walk[rest] = start
            path.append(rest)
            rest = days[rest] % many
        if walk[rest] == start:
            ring = list(path[path.index(rest):])
            found.append((len(ring), min(ring)))
    return found


class DayRule:
    """A rule that leads each day to a day and repeats after a period."""

    def __init__(self, days):
        check_days(days)
        self.days = least_days(days)

    @property
    def period(self):
        """The least number of days after which the rule repeats."""
        return len(self.days)

    def __call__(self, day):
        return led(self.days, day)

    def __rshift__(self, other):
        many = common_period(self.days, other.days)
        return DayRule([led(other.days, led(self.days, day)) for day in range(many)])

    def __or__(self, other):
        many = common_period(self.days, other.days)
        return DayRule([max(led(self.days, day), led(other.days, day)) for day in range(many)])

    def __and__(self, other):
        many = common_period(self.days, other.days)
        return DayRule([min(led(self.days, day), led(other.days, day)) for day in range(many)])

    def __mul__(self, other):
        if other < 0:
            raise BadCount(other)
        result = DayRule([0])
        power = self
        left = other
        while left > 0:
            if left & 1:
                result = result >> power
            power = power >> power
            left = left // 2
        return result

    def __eq__(self, other):
        return isinstance(other, DayRule) and self.days == other.days

    def latest(self):
        """The rule that leads D to the greatest day that this rule leads to D or before it."""
        return DayRule(latest_days(self.days))

    def soonest(self):
        """The rule that leads D to the least day that this rule leads to D or behind it."""
        # One day behind the greatest day that is led before D.
        before = latest_days(self.days)
        return DayRule([led(before, day - 1) + 1 for day in range(len(before))])

    def exceeds(self, other):
        """The least day from 0 on that this rule leads to a later day than the other one, or None."""
        for day in range(common_period(self.days, other.days)):
            if led(self.days, day) > led(other.days, day):
                return day
        return None

    def ring(self):
        """A tuple (day, uses, gain): so many uses lead the day to one that is later by the gain."""
        uses, day = min(rings_of(self.days))
        end = day
        for _ in range(uses):
            end = led(self.days, end)
        return day, uses, end - day


def shift(days):
    """The rule that leads each day to the one that is later by so many days."""
    return DayRule([days])


def check_good(period, good):
    """Raises BadDays if a number is no remainder of the period, or if there is none."""
    for at, day in enumerate(good):
        if not 0 <= day < period:
            raise BadDays(at)
    if len(good) == 0:
        raise BadDays(0)


def next_good(period, good):
    """The rule that leads each day to the first good day on or after it."""
    check_good(period, good)
    days = sorted(set(good))
    ends = [*days, days[0] + period]
    found = []
    at = 0
    for day in range(period):
        if day > ends[at]:
            at += 1
        found.append(ends[at])
    return DayRule(found)


def last_good(period, good):
    """The rule that leads each day to the last good day on or before it."""
    check_good(period, good)
    days = sorted(set(good))
    begins = [days[-1] - period, *days]
    found = []
    at = 0
    for day in range(period):
        if at + 1 < len(begins) and begins[at + 1] <= day:
            at += 1
        found.append(begins[at])
    return DayRule(found)
