import copy
import random
import time
import unittest
from fractions import Fraction
from math import gcd

from signedpacts.clearing import clear, purse_to_pay
from signedpacts.debts import net
from signedpacts.errors import BadAmount, BadPair, BadParty, NoPurse
from tests.plain_debts import NO_PAIRS, PAIRS, PARTIES, greatest_payments, has, owes, some_debts, waves_of
from tests.raising import Raising

RICH = 10 ** 200


def some_purses(chance, debts):
    """Purses for all that owe or are owed, and often for more, in any order."""
    greatest = chance.choice([0, 1, 3, 10, 10 ** 59])
    named = [party for party in PARTIES if any(party in pair for pair in debts if debts[pair]) or chance.random() < 0.5]
    return {party: chance.choice([0, chance.randint(0, greatest)]) for party in chance.sample(named, len(named))}


class ClearingTest(Raising):
    def errors_of(self, call):
        fine = {"a": 1, "b": 0}
        for pair in NO_PAIRS:
            self.raises(BadPair, {"pair": pair}, call, {"ab": -1, pair: 2}, {"x": -1})
        self.raises(BadAmount, {"value": -2}, call, {"ab": -2, "ba": -1}, {"x": -1})
        for party in ("", "g", "A", "ab", "world"):
            self.raises(BadParty, {"party": party}, call, {"ab": 1}, {"b": -1, party: -2, "h": 1})
        self.raises(BadAmount, {"value": -4}, call, {"cd": 1}, {"b": 0, "a": -4, "c": -1})
        self.raises(NoPurse, {"party": "c"}, call, {"dc": 1, "ab": 1}, fine)
        self.raises(NoPurse, {"party": "d"}, call, {"dc": 1, "ab": 1}, {**fine, "c": 1})
        self.assertIsNotNone(call({"dc": 0, "ab": 1}, fine))


class Clear(ClearingTest):
    def test_small_cases(self):
        for debts, purses, paid, waves in (
                ({}, {}, {}, ()),
                ({"ab": 0}, {"f": 3}, {"f": (0, 1)}, ()),
                ({"ab": 10, "bc": 8, "ca": 2}, {"a": 4, "b": 1, "c": 0}, {"a": (6, 1), "b": (7, 1), "c": (2, 1)}, ("a", "b")),
                ({"ab": 3}, {"b": 0, "a": 3}, {"b": (0, 1), "a": (3, 1)}, ()),
                ({"ab": 3}, {"a": 2, "b": 0}, {"a": (2, 1), "b": (0, 1)}, ("a",)),
                ({"ab": 1, "ac": 2}, {"a": 1, "b": 0, "c": 0}, {"a": (1, 1), "b": (0, 1), "c": (0, 1)}, ("a",)),
                ({"ab": 1, "ac": 2, "bd": 1, "cd": 1}, {"a": 1, "b": 0, "c": 0, "d": 0},
                 {"a": (1, 1), "b": (1, 3), "c": (2, 3), "d": (0, 1)}, ("a", "bc"))):
            self.assertEqual(clear(debts, purses), (paid, waves))
            self.assertEqual(list(clear(debts, purses)[0]), list(purses))

    def test_rings(self):
        none = {"a": 0, "b": 0, "c": 0}
        # The greatest payments: in a ring of equal debts everybody pays, without a coin in any purse.
        self.assertEqual(clear({"ab": 5, "bc": 5, "ca": 5}, none), (dict.fromkeys("abc", (5, 1)), ()))
        # Who owes something besides drains the ring, so that nobody can pay anything.
        self.assertEqual(clear({"ab": 10, "ba": 10, "ac": 1}, none), (dict.fromkeys("abc", (0, 1)), ("a", "b")))
        self.assertEqual(clear({"ab": 10, "ba": 10, "ac": 1}, {**none, "b": 10}),
                         ({"a": (10, 1), "b": (10, 1), "c": (0, 1)}, ("a",)))
        # The coin that b has goes round again and again, until all of it has come to c.
        self.assertEqual(clear({"ab": 3, "ac": 1, "ba": 4}, {**none, "b": 1}),
                         ({"a": (4, 1), "b": (4, 1), "c": (0, 1)}, ()))
        self.assertEqual(clear({"ab": 3, "ac": 3, "ba": 4}, {**none, "b": 1}),
                         ({"a": (2, 1), "b": (2, 1), "c": (0, 1)}, ("a", "b")))
        self.assertEqual(clear({"ab": 2, "ba": 1}, {"a": 0, "b": 0}), ({"a": (1, 1), "b": (1, 1)}, ("a",)))

    def test_random_debts(self):
        chance = random.Random(85)
        lengths = {}
        for _ in range(700):
            debts = some_debts(chance, chance.choice([4, 8, 30]))
            purses = some_purses(chance, debts)
            before = copy.deepcopy((debts, purses))
            paid, waves = clear(debts, purses)
            self.assertEqual({party: Fraction(*pair) for party, pair in paid.items()}, greatest_payments(debts, purses))
            self.assertEqual((list(paid), waves), (list(purses), waves_of(debts, purses)))
            for numerator, denominator in paid.values():
                self.assertTrue(denominator >= 1 and gcd(numerator, denominator) == 1)
            failing = sorted(party for party in purses if Fraction(*paid[party]) < owes(debts, party))
            self.assertEqual((sorted("".join(waves)), [sorted(wave) for wave in waves]), (failing, [list(w) for w in waves]))
            self.assertEqual((debts, purses), before)
            self.assertEqual([list(debts), list(purses)], [list(one) for one in before])
            lengths[len(waves)] = lengths.get(len(waves), 0) + 1
        self.assertTrue(all(lengths.get(many, 0) >= 5 for many in range(4)), lengths)

    def test_great_numbers(self):
        chance = random.Random(86)
        began = time.monotonic()
        digits = 0
        for _ in range(60):
            debts = {pair: chance.randint(10 ** 59, 10 ** 60) for pair in PAIRS}
            # A third of them owes more than it is owed.
            purses = {party: chance.choice([0, 10 ** 57, max(0, -net(debts)[at] // 2)]) for at, party in enumerate(PARTIES)}
            paid, waves = clear(debts, purses)
            exact = {party: Fraction(*pair) for party, pair in paid.items()}
            for party in PARTIES:
                self.assertEqual(exact[party], min(owes(debts, party), has(debts, purses, exact, party)))
            self.assertEqual(waves, waves_of(debts, purses))
            digits = max([digits, *[len(str(pair[1])) for pair in paid.values()]])
        self.assertGreater(digits, 60)
        self.assertEqual(clear({"ab": 10 ** 60}, {"a": RICH, "b": RICH})[0], {"a": (10 ** 60, 1), "b": (0, 1)})
        self.assertLess(time.monotonic() - began, 30)

    def test_errors_in_their_order(self):
        self.errors_of(clear)


class PurseToPay(ClearingTest):
    def test_small_cases(self):
        debts = {"ab": 10, "bc": 8, "ca": 2}
        self.assertEqual([purse_to_pay(debts, {"a": 4, "b": 1, "c": 0}, party) for party in "abc"], [8, 2, 0])
        # The own purse has no influence.
        self.assertEqual(purse_to_pay(debts, {"a": 10 ** 100, "b": 1, "c": 0}, "a"), 8)
        self.assertEqual(purse_to_pay({}, {"a": 3}, "a"), 0)
        self.assertEqual(purse_to_pay({"ba": 3}, {"a": 3, "b": 0}, "a"), 0)
        self.assertEqual(purse_to_pay({"ab": 5, "ba": 5}, {"a": 0, "b": 0}, "a"), 0)
        self.assertEqual(purse_to_pay({"ab": 10, "ba": 10, "ac": 1}, {"a": 0, "b": 0, "c": 0}, "a"), 1)
        # A third of a coin lacks.
        self.assertEqual(purse_to_pay({"ca": 1, "cb": 2, "ab": 1}, {"a": 0, "b": 0, "c": 2}, "a"), 1)

    def test_rings(self):
        for many in (1, 7, 10 ** 60):
            self.assertEqual(purse_to_pay({"ab": many, "bc": many, "ca": many}, {"a": 0, "b": 0, "c": 0}, "b"), 0)

    def test_random_debts(self):
        chance = random.Random(87)
        seen = {True: 0, False: 0}
        for _ in range(400):
            debts = some_debts(chance, chance.choice([4, 8, 30]))
            purses = some_purses(chance, debts)
            for party in purses:
                least = purse_to_pay(debts, purses, party)
                seen[least > 0] += 1
                pays = {coins: clear(debts, {**purses, party: coins})[0][party] == (owes(debts, party), 1)
                        for coins in {least, max(0, least - 1)}}
                self.assertEqual(pays, {least: True, **({least - 1: False} if least else {})})
        self.assertGreater(min(seen.values()), 200)

    def test_great_numbers(self):
        self.assertEqual(purse_to_pay({"ab": 10 ** 60, "bc": 10 ** 60 - 1}, {"a": 0, "b": RICH, "c": 0}, "a"), 10 ** 60)
        self.assertEqual(purse_to_pay({"ab": 10 ** 60, "bc": 10 ** 60}, {"a": RICH, "b": RICH, "c": RICH}, "b"), 0)

    def test_errors_in_their_order(self):
        self.errors_of(lambda debts, purses: purse_to_pay(debts, purses, "a" if "a" in purses else "b"))
        for party in ("", "g", "B", "ab"):
            self.raises(BadParty, {"party": party}, purse_to_pay, {"ab": 1}, {"a": 0, "b": 0}, party)
            self.raises(NoPurse, {"party": "b"}, purse_to_pay, {"ab": 1}, {"a": 0}, party)
            self.raises(BadAmount, {"value": -1}, purse_to_pay, {"ab": 1}, {"a": -1, "b": 0}, party)
        self.raises(NoPurse, {"party": "f"}, purse_to_pay, {"ab": 1}, {"a": 0, "b": 0}, "f")


if __name__ == "__main__":
    unittest.main()
