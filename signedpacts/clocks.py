"""Timed plays, in which an answer may come too late ([65]).

Everything repeats after a period of days, so a day is kept as its remainder. `left` is how many days are left for
the answer; it is below 0 when the answer comes too late.
"""


class Clock:
    """The rows of a machine whose texts are the beginnings of histories, and how long its letters take.

    `delays` has for each letter and day how many days later the next event is done, `gaps` for each day how many
    days the answer has if the last mark was done on this day. `unset` is the `left` without such a mark.
    """

    def __init__(self, rows, delays, gaps, mark, answer):
        self.rows = rows
        self.delays = delays
        self.gaps = gaps
        self.mark_at = mark
        self.answer_at = answer
        self.days_around = len(gaps)
        self.unset = max(0, max(gaps)) + 1

    def day_behind(self, at, day):
        """The day of the next event behind the letter with this index."""
        return (day + self.delays[at][day]) % self.days_around

    def left_behind(self, at, day, left):
        """How many days are left on the day of the next event."""
        if at == self.mark_at:
            return self.gaps[day] - self.delays[at][day]
        return left if left == self.unset else left - self.delays[at][day]

    def time_behind(self, at, day, left):
        """The day of the next event, and how many days are left then."""
        return self.day_behind(at, day), self.left_behind(at, day, left)

    def most_before(self, at, day, most):
        """The greatest `left` in front of a letter with which at most that many days are left behind it, or None."""
        if most is None:
            return None
        if at == self.mark_at:
            return self.unset if self.left_behind(at, day, self.unset) <= most else None
        return most if most == self.unset else min(most + self.delays[at][day], self.unset - 1)


def greater(one, other):
    """The greater one of two numbers, where None is less than every number."""
    if one is None or other is None:
        return other if one is None else one
    return max(one, other)


def first_layer(clock):
    """For each state and day the greatest `left` with which the very next event can lapse, or None."""
    days = range(clock.days_around)
    return [[None if row[clock.answer_at] is None else -1 for _ in days] for row in clock.rows]


def next_layer(clock, first, layer):
    """The same with one more event, where `layer` has it without."""
    found = []
    for row, bounds in zip(clock.rows, first):
        entries = [(at, entry) for at, entry in enumerate(row) if entry is not None]
        news = []
        for day, bound in enumerate(bounds):
            most = bound
            for at, entry in entries:
                behind = layer[entry][clock.day_behind(at, day)]
                most = greater(most, clock.most_before(at, day, behind))
            news.append(most)
        found.append(news)
    return found


def layers_of(clock):
    """Layers for at most one event, two events and so on, until some start can lapse; None if none can."""
    if not clock.rows:
        return None
    first = first_layer(clock)
    layers = [first]
    while clock.unset not in layers[-1][0]:
        layers.append(next_layer(clock, first, layers[-1]))
        if layers[-1] == layers[-2]:
            return None
    return layers


def text_of(clock, layers, letters):
    """The first text of as many events as there are layers whose last event lapses, and the least start for it."""
    state = 0
    now = {start: (start, clock.unset) for start in range(clock.days_around)}
    found = []
    for layer in list(layers[:-1])[::-1]:
        for at, entry in enumerate(clock.rows[state]):
            further = {start: clock.time_behind(at, day, left) for start, (day, left) in now.items()}
            if entry is not None and can_lapse(layer[entry], further):
                break
        found.append(letters[at])
        state = entry
        now = further
    late = [start for start, (_, left) in now.items() if left < 0]
    return "".join([*found, letters[clock.answer_at]]), min(late)


def can_lapse(bounds, now):
    """True if some start leaves at most as many days as the bound of its day."""
    return any([bounds[day] is not None and left <= bounds[day] for day, left in now.values()])
