import random
import unittest

from signedpacts.debts import net, owed
from signedpacts.errors import BadAmount, BadPair
from signedpacts.notation import parse_pact
from signedpacts.runs import runs
from tests.plain_debts import NO_PAIRS, PARTIES, some_debts
from tests.raising import Raising


class Owed(unittest.TestCase):
    def test_each_pair_has_its_sum(self):
        self.assertEqual(owed(["ab5", "D", "ba2", "ab7", "fe1"]), {"ab": 12, "ba": 2, "fe": 1})

    def test_nothing_is_owed(self):
        for told in ([], (), ["D", "E"], ["ab0", "ba0"]):
            self.assertEqual(owed(told), {})

    def test_keys_are_in_order(self):
        self.assertEqual(list(owed(["fa1", "ba1", "af1", "ab1", "ba1"])), ["ab", "af", "ba", "fa"])

    def test_great_amounts(self):
        self.assertEqual(owed([f"ab{10 ** 60}", "ab0"]), {"ab": 10 ** 60})

    def test_what_plays_would_owe(self):
        for _, told, _ in runs(parse_pact("a[ab3, b(ba2 | D)], 2(bc1)"), most=3):
            debts = owed(told)
            self.assertEqual(debts.get("ab", 0), 3 * told.count("ab3"))
            self.assertEqual((debts.get("ba", 0), debts["bc"]), (2 * told.count("ba2"), 2))


class Net(Raising):
    def test_sums_of_all_parties(self):
        self.assertEqual(net({"ab": 5, "ba": 2, "fb": 7}), (-3, 10, 0, 0, 0, -7))

    def test_no_debts_and_zeros(self):
        self.assertEqual(net({}), (0,) * 6)
        self.assertEqual(net({"ef": 0, "ab": 0}), (0,) * 6)

    def test_random_debts(self):
        chance = random.Random(81)
        for _ in range(200):
            debts = some_debts(chance)
            wanted = [sum(coins * ((pair[1] == party) - (pair[0] == party)) for pair, coins in debts.items())
                      for party in PARTIES]
            self.assertEqual(net(debts), tuple(wanted))
            self.assertEqual(sum(net(debts)), 0)

    def test_errors_in_their_order(self):
        for pair in NO_PAIRS:
            self.raises(BadPair, {"pair": pair}, net, {"ab": -1, pair: 1, "zz": 1})
        self.raises(BadAmount, {"value": -1}, net, {"ab": 0, "ba": -1, "cd": -2})


if __name__ == "__main__":
    unittest.main()
