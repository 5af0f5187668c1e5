import copy
import random
import time
import unittest

from signedpacts.debts import net
from signedpacts.errors import BadAmount, BadPair
from signedpacts.setoff import set_off
from tests.plain_debts import NO_PAIRS, PAIRS, PARTIES, some_debts
from tests.raising import Raising

GREAT = 10 ** 60


def least_sum(debts):
    """The least sum of what can be left of small debts, by trying out what is left of each of them."""
    waiting, seen, least = [tuple(debts[pair] for pair in sorted(debts))], set(), None
    wanted = net(debts)
    keys = sorted(debts)
    while waiting:
        here = waiting.pop()
        if here in seen:
            continue
        seen.add(here)
        if net(dict(zip(keys, here))) == wanted:
            least = sum(here) if least is None else min(least, sum(here))
        waiting += [here[:at] + (coins - 1,) + here[at + 1:] for at, coins in enumerate(here) if coins > 0]
    return least


class SetOff(Raising):
    def check(self, debts):
        """Checks an answer by the heights that come with it; returns what is left."""
        rest, heights = set_off(debts)
        high = dict(zip(PARTIES, heights))
        self.assertEqual((len(heights), net(rest)), (6, net(debts)))
        self.assertEqual((list(rest), 0 in rest.values()), (sorted(rest), False))
        for pair in PAIRS:
            left, before = rest.get(pair, 0), debts.get(pair, 0)
            self.assertTrue(0 <= left <= before)
            if left > 0:
                self.assertGreaterEqual(high[pair[0]], high[pair[1]] + 1)
            if left < before:
                self.assertLessEqual(high[pair[0]], high[pair[1]] + 1)
        return rest

    def test_small_debts(self):
        for debts, rest in (({}, {}), ({"ab": 0}, {}), ({"ab": 3}, {"ab": 3}), ({"ab": 5, "ba": 3}, {"ab": 2}),
                            ({"ab": 10, "bc": 8, "ca": 2}, {"ab": 8, "bc": 6}), ({"ba": 4, "ab": 4}, {}),
                            ({"ab": 1, "bc": 1, "cd": 1, "de": 1, "ef": 1, "fa": 1}, {}),
                            ({"ab": 1, "bc": 1, "ac": 1}, {"ab": 1, "ac": 1, "bc": 1})):
            self.assertEqual(self.check(debts), rest)
        self.assertEqual(set_off({}), ({}, (0,) * 6))

    def test_rings_that_are_in_each_others_way(self):
        # To set off the ring of two first would leave more: the ring of three takes two coins more.
        self.assertEqual(sum(self.check({"ab": 1, "ba": 1, "bc": 1, "ca": 1}).values()), 1)
        self.assertEqual(sum(self.check({"ab": 1, "bc": 1, "ca": 1, "bd": 1, "de": 1, "ef": 1, "fa": 1}).values()), 2)
        chance = random.Random(82)
        for _ in range(60):
            debts = {pair: chance.choice([1, 1, 2]) for pair in chance.sample(PAIRS[:12] + PAIRS[15:18], 7)}
            self.assertEqual(sum(self.check(debts).values()), least_sum(debts))

    def test_random_debts(self):
        chance = random.Random(83)
        began = time.monotonic()
        for _ in range(600):
            debts = some_debts(chance)
            before = copy.deepcopy(debts)
            answer = self.check(debts), set_off(debts)[1]
            self.assertEqual(list(debts.items()), list(before.items()))
            # Neither the order of the keys nor written zeros count.
            keys = chance.sample(sorted(debts), len(debts))
            other = {key: debts[key] for key in keys if debts[key] or chance.random() < 0.5}
            other.update({pair: 0 for pair in chance.sample(PAIRS, 3) if pair not in debts})
            self.assertEqual(set_off(other), answer)
            # What is left cannot be set off any more.
            self.assertEqual(set_off(answer[0])[0], answer[0])
        self.assertLess(time.monotonic() - began, 30)

    def test_great_debts_of_all_pairs(self):
        chance = random.Random(84)
        began = time.monotonic()
        for _ in range(30):
            self.check({pair: chance.choice([GREAT, chance.randint(0, GREAT), 10 ** chance.randint(0, 60)]) for pair in PAIRS})
        self.assertEqual(self.check(dict.fromkeys(PAIRS, GREAT)), {})
        self.assertEqual(self.check({"ab": GREAT, "bc": GREAT - 1, "ca": 1}), {"ab": GREAT - 1, "bc": GREAT - 2})
        self.assertLess(time.monotonic() - began, 20)

    def test_errors_in_their_order(self):
        for pair in NO_PAIRS:
            self.raises(BadPair, {"pair": pair}, set_off, {"ab": -1, pair: 1})
        self.raises(BadAmount, {"value": -3}, set_off, {"ab": 1, "cd": -3, "ba": -1})


if __name__ == "__main__":
    unittest.main()
