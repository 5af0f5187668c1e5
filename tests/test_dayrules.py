import random
import time
import unittest

from signedpacts.dayrules import DayRule, last_good, next_good, shift
from signedpacts.errors import BadCount, BadDays
from tests.plain_days import some_rule

GREAT = 10 ** 40 - 1


class DayTest(unittest.TestCase):
    def raises(self, error, fields, call, *arguments):
        with self.assertRaises(error) as caught:
            call(*arguments)
        self.assertEqual(vars(caught.exception), fields)


class Rules(DayTest):
    def test_the_example_of_the_document(self):
        f = (shift(1) >> next_good(7, [0, 1, 2, 3, 4])) * 3
        self.assertEqual((f(4), f.latest()(9), f.ring()), (9, 6, (0, 5, 21)))

    def test_days(self):
        rule = DayRule([3, 3, 5, 7])
        self.assertEqual((rule.days, rule.period), ((3, 3, 5, 7), 4))
        self.assertEqual([DayRule([0, 0, 2])(day) for day in range(-4, 6)], [-4, -3, -3, -1, 0, 0, 2, 3, 3, 5])
        self.assertEqual(DayRule([5])(-10 ** 50), 5 - 10 ** 50)
        self.assertEqual(DayRule((GREAT, GREAT + 1)).days, (GREAT,))

    def test_the_least_period(self):
        for days, least in (([0, 1, 2, 3], (0,)), ([7], (7,)), ([0, 0, 2, 2], (0, 0)), ([1, 1, 3, 3, 5, 5], (1, 1)),
                            ([0, 0, 2], (0, 0, 2)), ([0, 0, 0, 3, 3, 3], (0, 0, 0)), ([0, 1, 1, 3], (0, 1, 1, 3)),
                            ([-1, 0], (-1,)), ([2, 2], (2, 2)), ([0, 1, 2, 2], (0, 1, 2, 2))):
            rule = DayRule(days)
            self.assertEqual((rule.days, rule.period), (least, len(least)))
        self.assertEqual(DayRule(list(range(400))).days, (0,))
        self.assertEqual(DayRule([0] * 400).period, 400)
        self.assertEqual(DayRule([day - day % 8 for day in range(400)]).days, (0,) * 8)

    def test_equal_rules(self):
        self.assertTrue(DayRule([0, 0, 2, 2]) == DayRule([0, 0]))
        self.assertFalse(DayRule([0, 0]) == DayRule([0, 1]))
        self.assertFalse(DayRule([0]) == (0,))
        self.assertFalse(DayRule([0]) == None)  # noqa: E711
        self.assertTrue(DayRule([0]) != DayRule([1]))

    def test_wrong_days(self):
        for days, at in (([], 0), ((), 0), ([0, -1], 1), ([5, 6, 3, 2], 2), ([0, 3], 0), ([0, 0, 4], 0), ([0, 5, 3], 2),
                         ([GREAT, -GREAT], 1), ([-GREAT, GREAT], 0), ([1, 2, 3, 2], 3)):
            self.raises(BadDays, {"at": at}, DayRule, days)
        self.assertEqual(DayRule([0, 2]).days, (0, 2))
        self.assertEqual(DayRule([0, 0, 3]).days, (0, 0, 3))

    def test_days_are_copied(self):
        days = [0, 0]
        rule = DayRule(days)
        days[1] = 1
        self.assertEqual(rule.days, (0, 0))


class Operators(DayTest):
    def test_random_rules(self):
        chance = random.Random(81)
        for _ in range(300):
            f, g = some_rule(chance), some_rule(chance)
            both, later, sooner = f >> g, f | g, f & g
            for day in range(-15, 16):
                self.assertEqual(both(day), g(f(day)))
                self.assertEqual(later(day), max(f(day), g(day)))
                self.assertEqual(sooner(day), min(f(day), g(day)))
            for rule in (both, later, sooner):
                self.assertEqual(DayRule([rule(day) for day in range(12)]).days, rule.days)

    def test_many_uses(self):
        chance = random.Random(82)
        for _ in range(200):
            f = some_rule(chance)
            day = chance.randint(-20, 20)
            for uses in range(9):
                self.assertEqual((f * uses)(0 + day), self.used(f, uses, day))
            self.assertTrue(f * 0 == shift(0))
            self.assertTrue((f * 10 ** 30) >> f == f * (10 ** 30 + 1))
        work = shift(1) >> next_good(7, [0, 1, 2, 3, 4])
        self.assertEqual((work * 10 ** 30)(0), 7 * (10 ** 30 // 5))
        self.assertEqual((shift(-3) * 10 ** 30)(4), 4 - 3 * 10 ** 30)
        for uses in (-1, -10 ** 30):
            self.raises(BadCount, {"value": uses}, lambda: work * uses)

    def used(self, f, uses, day):
        for _ in range(uses):
            day = f(day)
        return day

    def test_periods_that_multiply(self):
        chance = random.Random(83)
        f, g = some_rule(chance, [25]), some_rule(chance, [40])
        for rule in (f >> g, f | g, f & g):
            self.assertEqual(200 % rule.period, 0)
        self.assertEqual([(f >> g)(day) for day in range(-300, 300)], [g(f(day)) for day in range(-300, 300)])

    def test_great_rules(self):
        began = time.monotonic()
        chance = random.Random(84)
        for base in (GREAT - 400, -GREAT, 0):
            f = DayRule(sorted(base + chance.randint(0, 400) for _ in range(400)))
            power = f * 10 ** 30
            day, uses, gain = f.ring()
            self.assertLess(abs(uses * (power(7) - 7) - 10 ** 30 * gain), uses * f.period)
            self.assertLessEqual(f(f.latest()(3)), 3)
            self.assertGreater(f(f.latest()(3) + 1), 3)
        one, other = DayRule([0] * 8), DayRule([0] * 125)
        self.assertEqual((one >> other)(999), 875)
        self.assertEqual((one | other)(999), 992)
        self.assertEqual(one.exceeds(other), 8)
        self.assertLess(time.monotonic() - began, 20)


class Methods(DayTest):
    def test_latest_and_soonest(self):
        chance = random.Random(85)
        for _ in range(300):
            f = some_rule(chance)
            latest, soonest = f.latest(), f.soonest()
            for day in range(-12, 13):
                around = range(day - 40, day + 41)
                self.assertEqual(latest(day), max(one for one in around if f(one) <= day))
                self.assertEqual(soonest(day), min(one for one in around if f(one) >= day))
        self.assertEqual((shift(5).latest().days, shift(5).soonest().days), ((-5,), (-5,)))
        good = next_good(7, [0, 1, 2, 3, 4])
        self.assertEqual([good.latest()(day) for day in range(7)], [0, 1, 2, 3, 4, 4, 4])
        self.assertEqual([good.soonest()(day) for day in range(8)], [-2, 1, 2, 3, 4, 5, 5, 5])

    def test_exceeds(self):
        chance = random.Random(86)
        for _ in range(500):
            f, g = some_rule(chance), some_rule(chance)
            days = [day for day in range(60) if f(day) > g(day)]
            self.assertEqual(f.exceeds(g), days[0] if days else None)
        self.assertEqual(shift(1).exceeds(shift(0)), 0)
        self.assertIsNone(shift(0).exceeds(shift(0)))
        self.assertEqual(next_good(30, [0, 29]).exceeds(shift(27)), 1)
        self.assertEqual(next_good(30, [0, 29]).exceeds(shift(28)), None)

    def test_rings(self):
        chance = random.Random(87)
        lengths = set()
        for _ in range(400):
            f = some_rule(chance, [1, 2, 3, 4, 5, 6, 7])
            wanted = None
            for uses in range(1, 10):
                for day in range(f.period):
                    gain = self.used(f, uses, day) - day
                    if wanted is None and gain % f.period == 0:
                        wanted = (day, uses, gain)
            self.assertEqual(f.ring(), wanted)
            day, uses, gain = wanted
            for many in (0, 1, 5, 10 ** 9):
                for begin in (0, 3, -8):
                    self.assertLess(abs(uses * ((f * many)(begin) - begin) - many * gain), uses * f.period)
            lengths.add(uses)
        self.assertGreater(len(lengths), 3)
        self.assertEqual(shift(0).ring(), (0, 1, 0))
        self.assertEqual(shift(-10 ** 39).ring(), (0, 1, -10 ** 39))
        self.assertEqual(DayRule([2, 2, 2]).ring(), (2, 1, 0))
        self.assertEqual(DayRule([0, 0, 2]).ring(), (0, 1, 0))

    def used(self, f, uses, day):
        for _ in range(uses):
            day = f(day)
        return day


class Makers(DayTest):
    def test_shift(self):
        for days in (0, 1, -1, GREAT, -GREAT):
            self.assertEqual((shift(days).days, shift(days)(5)), ((days,), 5 + days))

    def test_good_days(self):
        chance = random.Random(88)
        for _ in range(200):
            period = chance.randint(1, 9)
            good = [chance.randrange(period) for _ in range(chance.randint(1, 5))]
            after, before = next_good(period, good), last_good(period, good)
            for day in range(-10, 20):
                self.assertEqual(after(day), next(one for one in range(day, 40) if one % period in good))
                self.assertEqual(before(day), next(one for one in range(day, -30, -1) if one % period in good))
        self.assertEqual(next_good(4, [3, 1, 1]).days, (1, 1))
        self.assertEqual(next_good(1, [0]).days, (0,))
        self.assertEqual(last_good(400, [399])(398), -1)
        self.assertEqual(next_good(400, (399, 399))(400), 799)

    def test_wrong_good_days(self):
        for call in (next_good, last_good):
            self.raises(BadDays, {"at": 0}, call, 7, [])
            self.raises(BadDays, {"at": 0}, call, 7, ())
            self.raises(BadDays, {"at": 1}, call, 7, [6, 7, -1])
            self.raises(BadDays, {"at": 2}, call, 7, [0, 0, -1, 9])
            self.raises(BadDays, {"at": 0}, call, 1, [1])


if __name__ == "__main__":
    unittest.main()
