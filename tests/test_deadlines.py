import random
import time
import unittest
from math import lcm

from signedpacts.dayrules import DayRule, last_good, next_good, shift
from signedpacts.deadlines import plan_days
from signedpacts.errors import BadEvent
from tests.plain_days import some_rule

WORK = next_good(7, [0, 1, 2, 3, 4])


def forced(bound, event, day):
    """The event that a bound forces if the event is on the day or later, and the day; None if it forces none."""
    word, one, other, rule = bound
    if word == "from":
        return (other, rule(day)) if one == event else None
    return (one, rule.soonest()(day)) if other == event else None


def kept(bounds, days):
    return all(days[other] >= rule(days[one]) if word == "from" else days[other] <= rule(days[one])
               for word, one, other, rule in bounds)


class Deadlines(unittest.TestCase):
    def check(self, many, bounds, start):
        """Checks the answer and returns its word."""
        answer = plan_days(many, bounds, start)
        self.assertIs(type(answer), tuple)
        if answer[0] == "days":
            days = answer[1]
            self.assertEqual((len(days), type(days)), (many, tuple))
            self.assertTrue(kept(bounds, days) and min(days) >= start)
            self.assertEqual(days, self.least_days(many, bounds, start))
            return "days"
        word, walk, day = answer
        self.assertEqual((word, type(walk)), ("ring", tuple))
        self.assertTrue(walk)
        _, one, other, _ = bounds[walk[-1]]
        first = event = other if bounds[walk[-1]][0] == "from" else one
        later = day
        for number in walk:
            found = forced(bounds[number], event, later)
            self.assertIsNotNone(found, "a bound does not force from the event before it")
            event, later = found
        period = lcm(*(rule.period for _, _, _, rule in bounds))
        self.assertEqual(event, first)
        self.assertGreaterEqual(later, day + period)
        return "ring"

    def least_days(self, many, bounds, start):
        """The least days, by moving on one event by one day as long as some bound asks for it."""
        days = [start] * many
        moved = True
        while moved:
            moved = False
            for word, one, other, rule in bounds:
                late = days[other] < rule(days[one]) if word == "from" else days[other] > rule(days[one])
                if late:
                    days[other if word == "from" else one] += 1
                    moved = True
        return tuple(days)

    def test_small_plans(self):
        self.assertEqual(plan_days(1, [], 5), ("days", (5,)))
        self.assertEqual(plan_days(3, (), -7), ("days", (-7,) * 3))
        self.assertEqual(plan_days(2, [("from", 0, 1, shift(3) >> WORK)], 3), ("days", (3, 7)))
        self.assertEqual(plan_days(2, [("by", 0, 1, shift(-3))], 3), ("days", (6, 3)))
        self.assertEqual(plan_days(2, [["from", 0, 1, shift(3)], ("by", 0, 1, shift(3))], 3), ("days", (3, 6)))
        self.assertEqual(plan_days(3, [("from", 0, 1, WORK), ("from", 1, 2, shift(1) >> WORK), ("by", 0, 2, shift(2))], 5),
                         ("days", (6, 7, 8)))
        self.assertEqual(plan_days(2, [("from", 0, 0, WORK)], -2), ("days", (0, -2)))
        self.assertEqual(plan_days(1, [("by", 0, 0, last_good(7, [2]))], 0), ("days", (2,)))

    def test_small_rings(self):
        self.assertEqual(plan_days(1, [("from", 0, 0, shift(1))], 4), ("ring", (0,), 4))
        self.assertEqual(plan_days(1, [("by", 0, 0, shift(-1))], 4)[:2], ("ring", (0,)))
        for bounds in ([("from", 0, 1, shift(3)), ("by", 0, 1, shift(2))], [("from", 0, 1, shift(1)), ("from", 1, 0, shift(0))],
                       [("from", 0, 0, shift(1) >> WORK)], [("from", 0, 1, WORK), ("from", 1, 0, next_good(7, [5, 6]))]):
            self.assertEqual(self.check(2, bounds, -3), "ring")

    def test_the_same_event_twice_in_a_bound(self):
        chance = random.Random(91)
        words = []
        for _ in range(300):
            bounds = [(chance.choice(["from", "by"]), 0, 0, some_rule(chance)) for _ in range(chance.randint(1, 3))]
            words.append(self.check(1, bounds, chance.randint(-9, 9)))
        self.assertTrue(words.count("days") > 30 and words.count("ring") > 30)

    def test_random_bounds(self):
        chance = random.Random(92)
        words = []
        for _ in range(1500):
            many = chance.randint(1, 8)
            bounds = [(chance.choice(["from", "by"]), chance.randrange(many), chance.randrange(many),
                       some_rule(chance, least=-4, most=2)) for _ in range(chance.randint(0, 8))]
            words.append(self.check(many, bounds, chance.randint(-30, 30)))
        self.assertTrue(words.count("days") > 300 and words.count("ring") > 300, words.count("days"))

    def test_rings_that_gain_little(self):
        began = time.monotonic()
        # In every turn through all events, one day is gained.
        slow = [("from", event, (event + 1) % 8, DayRule([0] + [max(1, day) for day in range(1, 420)])) for event in range(7)]
        self.assertEqual(self.check(8, [*slow, ("from", 7, 0, shift(1))], 3), "ring")
        halves = [("from", 0, 1, next_good(420, range(0, 420, 2))), ("from", 1, 0, next_good(420, range(1, 420, 2)))]
        self.assertEqual(self.check(2, [(word, one, other, rule) for word, one, other, rule in halves], 0), "ring")
        # Long chains that come to an end on the last day of the period.
        stop = [("from", 7, 0, DayRule([min(day + 1, 419) for day in range(420)]))]
        self.assertEqual(plan_days(8, [("from", event, event + 1, shift(0)) for event in range(7)] + stop, 0),
                         ("days", (419,) * 8))
        self.assertEqual(self.check(8, [("from", event, event + 1, shift(0)) for event in range(7)] + stop, 420), "days")
        self.assertLess(time.monotonic() - began, 20)

    def test_great_steps(self):
        for bounds in ([("from", 0, 1, shift(400)), ("from", 1, 0, shift(-400))], [("by", 0, 1, shift(-400)), ("by", 1, 0, shift(400))],
                       [("from", 0, 1, shift(400)), ("from", 1, 0, shift(-399))], [("from", 0, 1, DayRule([0] * 400 + [0] * 20))]):
            self.check(2, bounds, 10 ** 100)
        self.assertEqual(plan_days(2, [("from", 0, 1, shift(400))], -10 ** 100), ("days", (-10 ** 100, 400 - 10 ** 100)))

    def test_wrong_events(self):
        for bounds, at in (([("from", 0, 2, WORK)], 0), ([("from", 0, 1, WORK), ("by", -1, 0, WORK)], 1),
                           ([("from", 0, 0, shift(1)), ("by", 1, 1, WORK), ("by", 2, 0, WORK), ("from", 9, 9, WORK)], 2),
                           ([("by", 0, -1, WORK)], 0), ([("by", 1, 0, WORK), ("from", 0, -1, WORK)], 1)):
            before = list(bounds)
            with self.assertRaises(BadEvent) as caught:
                plan_days(2, bounds, 0)
            self.assertEqual((vars(caught.exception), bounds), ({"at": at}, before))


if __name__ == "__main__":
    unittest.main()
