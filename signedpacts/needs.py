"""Needs: the least purse that is surely enough, for each needed sum ([26] to [30])."""
from signedpacts.errors import BadAmount, BadCount, BadNeed
from signedpacts.rises import are_rises, composed, first_above, flat_place, greatest_value, is_open, pair_at
from signedpacts.rises import rise_place, rises_of_greater, rises_of_smaller, side_by_side, sooner, value_at
from signedpacts.rises import values_at_lows


def check_need(start, rises, never):
    """Raises BadNeed with the first field that breaks the form of [26]."""
    if start is not None and start < 0:
        raise BadNeed("start")
    if not are_rises(rises) or (start is None and len(rises) > 0):
        raise BadNeed("rises")
    if never is not None:
        if start is None or is_open(rises) or never < greatest_value(start, rises):
            raise BadNeed("never")


def exceeds(one, other):
    """True if the one purse is greater than the other one, where None is greater than every number."""
    return other is not None and (one is None or one > other)


class Need:
    """A need in its three fields."""

    def __init__(self, start, rises, never):
        check_need(start, rises, never)
        self.start = start
        self.rises = tuple([(low, high) for low, high in rises])
        self.never = never
        self._values = () if start is None else values_at_lows(start, self.rises)

    def _value(self, k):
        """The value for a needed sum, None included."""
        if k is None or self.start is None:
            return self.never
        return value_at(self.start, self.rises, self._values, k)

    def __call__(self, k):
        if k is not None and k < 0:
            raise BadAmount(k)
        return self._value(k)

    def __rshift__(self, other):
        # A need that gives no numbers has no rises, so nothing rises if one of both is of this kind.
        rises = composed(self.rises, other.start, other.rises)
        return Need(self._value(other.start), rises, self._value(other.never))

    def _beside(self, other):
        """The pieces of both needs side by side; both give numbers."""
        return side_by_side(self.start, self.rises, other.start, other.rises)

    def __or__(self, other):
        if self.start is None or other.start is None:
            smaller = other if self.start is None else self
            return Need(smaller.start, smaller.rises, smaller.never)
        rises = rises_of_smaller(self._beside(other))
        return Need(min(self.start, other.start), rises, sooner(self.never, other.never))

    def __and__(self, other):
        if self.start is None or other.start is None:
            return Need(None, (), None)
        never = self.never if exceeds(self.never, other.never) else other.never
        return Need(max(self.start, other.start), rises_of_greater(self._beside(other)), never)

    def __mul__(self, other):
        if not 0 <= other <= 400:
            raise BadCount(other)
        result = Need(0, ((0, None),), None)
        power = self
        left = other
        while left > 0:
            if left & 1:
                result = result >> power
            left = left // 2
            # The last power is not needed, and it may have many more rises.
            power = power >> power if left > 0 else power
        return result

    def __eq__(self, other):
        return (isinstance(other, Need) and self.start == other.start and self.rises == other.rises
                and self.never == other.never)

    def _last_enough(self):
        """The greatest number x with f(x) >= x, or None; the need gives numbers."""
        return flat_place(self.rises, self.start)

    def _first_enough(self):
        """The least number x with f(x) <= x, or None."""
        if self.start is None:
            return None
        if self.start == 0:
            return 0
        before = flat_place(self.rises, self.start - 1)
        return None if before is None else before + 1

    def mine(self):
        """The need that gives the least of k, f(k), f(f(k)) and so on."""
        last = None if self.start is None else self._last_enough()
        if last is None:
            return Need(0, ((0, None),), None)
        return Need(0, ((0, last),) if last > 0 else (), None if self.never is None else last)

    def theirs(self):
        """The need that gives the greatest of k, f(k), f(f(k)) and so on."""
        first = self._first_enough()
        return Need(first, () if first is None else ((first, None),), None)

    def endless(self):
        """The need that always gives the greatest of 0, f(0), f(f(0)) and so on."""
        first = self._first_enough()
        return Need(first, (), first)

    def excess(self, other):
        """The least k for which this need is greater than the other one, alone in a tuple, or ()."""
        if self.start is None:
            return () if other.start is None else (0,)
        if other.start is None:
            return ()
        k = first_above(self._beside(other))
        if k is None and not exceeds(self.never, other.never):
            return ()
        return (k,)

    def surely(self, purse):
        """The greatest number k with f(k) <= purse, -1 without such a number, None without a greatest one."""
        if self.start is None or self.start > purse:
            return -1
        return rise_place(self.rises, purse - self.start)

    def _stride(self, k):
        """What one more round adds to the number k, and for how many rounds at least it adds just this.

        The number of rounds is None if it is the same without end. The need gives numbers.
        """
        at = pair_at(self.rises, k)
        change = self._value(k) - k
        if change == 0:
            return 0, None
        if at < 0 or (self.rises[at][1] is not None and k > self.rises[at][1]):
            return change, 1
        low, high = self.rises[at]
        if change < 0:
            return change, (k - low) // -change + 1
        return change, None if high is None else (high - k) // change + 1

    def rounds_to_afford(self, needed, purse):
        """The least number of rounds after which the value is at most the purse, or None."""
        k = self.never if needed is None else needed
        rounds_made = 1 if needed is None else 0
        if k is None:
            return None
        while k > purse:
            change, many = (0, None) if self.start is None else self._stride(k)
            if change >= 0:
                return None
            enough = (k - purse - 1) // -change + 1
            leap = sooner(enough, many)
            k = k + leap * change
            rounds_made = rounds_made + leap
        return rounds_made

    def rounds_to_exceed(self, needed, purse):
        """The least number of rounds after which the value is more than the purse, or None."""
        k = needed
        rounds_made = 0
        while not exceeds(k, purse):
            if self.start is None:
                return rounds_made + 1
            change, many = self._stride(k)
            if change <= 0:
                return None
            leap = sooner((purse - k) // change + 1, many)
            k = k + leap * change
            rounds_made = rounds_made + leap
        return rounds_made

    def _after(self, k, limit):
        """The value after that many rounds."""
        left = limit
        if left > 0 and (k is None or self.start is None):
            k = self.never
            left = left - 1
        while left > 0 and k is not None:
            change, many = self._stride(k)
            leap = sooner(left, many)
            k = k + leap * change
            left = left - leap
        return k

    def lowest(self, needed, limit):
        """The least one of the first limit + 1 values, of which the first one is `needed`."""
        # The values only grow or only get less, so the first or the last one is the least.
        return sooner(needed, self._after(needed, limit))

    def highest(self, needed, limit):
        """The greatest one of the first limit + 1 values, of which the first one is `needed`."""
        last = self._after(needed, limit)
        return needed if exceeds(needed, last) else last
