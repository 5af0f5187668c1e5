import itertools
import random
import time
import unittest

from signedpacts.errors import BadParty
from signedpacts.notation import parse_pact
from signedpacts.runs import history_of, run_need, runs
from tests.plain_pacts import plays_of, some_pact

NO_PARTIES = ("", "g", "A", "ab", "world")


def runs_of(text, most=1):
    return list(runs(parse_pact(text), most=most))


class Runs(unittest.TestCase):
    def test_small_pacts(self):
        self.assertEqual(runs_of("."), [((), (), True)])
        self.assertEqual(runs_of("ab5, 2(D)"), [((), ("ab5", "D", "D"), True)])
        self.assertEqual(runs_of("a(D | . | E), F"), [((("take", 0),), ("D", "F"), True), ((("take", 1),), ("F",), True),
                                                      ((("take", 2),), ("E", "F"), True)])
        self.assertEqual(runs_of("a[D]", 0), [((("rounds", 0),), (), True)])
        self.assertEqual(runs_of("a[D]"), [((("rounds", 0),), (), True), ((("rounds", 1),), ("D",), True)])
        self.assertEqual(runs_of("a[D]", 2)[2], ((("rounds", 2), ("rounds", 1)), ("D", "D"), True))

    def test_endless_rounds_are_cut(self):
        self.assertEqual(runs_of("D, [E], F"), [((("rounds", 0),), ("D",), False), ((("rounds", 1),), ("D", "E"), False)])
        self.assertEqual(runs_of("[.]", 0), [((("rounds", 0),), (), False)])
        self.assertEqual(runs_of("a(D | [E])", 0), [((("take", 0),), ("D",), True),
                                                    ((("take", 1), ("rounds", 0)), (), False)])

    def test_one_round_is_named_if_nothing_is_said(self):
        self.assertEqual(list(runs(parse_pact("a[D]"))), runs_of("a[D]", 1))

    def test_limits_are_named(self):
        # In one more round the inner rounds are named anew, the outer ones with their limit.
        moves = [found for found, _, _ in runs_of("a[b[D]]", 2)]
        self.assertEqual(moves[:3], [(("rounds", 0),), (("rounds", 1), ("rounds", 0)), (("rounds", 1), ("rounds", 1))])
        self.assertIn((("rounds", 2), ("rounds", 2), ("rounds", 1), ("rounds", 1), ("rounds", 0)), moves)
        self.assertEqual(len(moves), 1 + 3 + 9)

    def test_random_pacts(self):
        chance = random.Random(3)
        most_seen = 0
        for _ in range(600):
            pact = some_pact(chance, chance.randint(1, 14))
            for most in (0, 1, 2):
                if len(list(itertools.islice(runs(pact, most=most), 400))) < 400:
                    found = list(runs(pact, most=most))
                    self.assertEqual(found, plays_of(pact, most))
                    numbers = [[number for _, number in moves] for moves, _, _ in found]
                    self.assertEqual(numbers, sorted(numbers))
                    most_seen = max(most_seen, len(found))
        self.assertGreater(most_seen, 100)

    def test_no_transfer_fails(self):
        self.assertEqual(runs_of(f"ab{10 ** 60}, a(ab{10 ** 60} | .)")[0][2], True)

    def test_the_first_ones_come_at_once(self):
        began = time.monotonic()
        many = runs(parse_pact(", ".join(["a(D | E | F)"] * 100)), most=9)
        self.assertEqual(next(many)[0], (("take", 0),) * 100)
        self.assertEqual(next(many)[0], (("take", 0),) * 99 + (("take", 1),))
        deep = runs(parse_pact("a[" * 30 + "." + "]" * 30), most=9)
        self.assertEqual([moves for moves, _, _ in itertools.islice(deep, 3)],
                         [(("rounds", 0),), (("rounds", 1), ("rounds", 0)), (("rounds", 1), ("rounds", 1), ("rounds", 0))])
        for _ in itertools.islice(deep, 5000):
            pass
        self.assertLess(time.monotonic() - began, 20)

    def test_two_at_once(self):
        pact = parse_pact("a[D]")
        one, other = runs(pact), runs(pact, most=2)
        self.assertEqual([next(one)[0], next(other)[0], next(other)[0], next(one)[0]],
                         [(("rounds", 0),), (("rounds", 0),), (("rounds", 1),), (("rounds", 1),)])


class RunNeeds(unittest.TestCase):
    def test_what_a_run_needs(self):
        told = ("ab5", "D", "ba3", "cd9", "ab4")
        self.assertEqual([run_need(told, party) for party in "abcde"], [6, 0, 9, 0, 0])
        self.assertEqual([run_need(told, "a", needed=needed) for needed in (0, 1, 10)], [6, 7, 16])
        self.assertEqual([run_need(told, "b", needed=needed) for needed in (0, 6, 7)], [0, 0, 1])
        self.assertEqual(run_need(["ba5", "ab2"], "a"), 0)
        self.assertEqual(run_need(("ab5", "ba9"), "a", needed=4), 5)
        self.assertEqual(run_need((), "f", needed=10 ** 300 - 1), 10 ** 300 - 1)
        self.assertEqual(run_need(("ab" + str(10 ** 60),), "a", needed=1), 10 ** 60 + 1)

    def test_no_end(self):
        self.assertIsNone(run_need(("ba5",), "a", needed=None))
        for party in NO_PARTIES:
            for needed in (None, 0):
                with self.assertRaises(BadParty) as caught:
                    run_need((), party, needed=needed)
                self.assertEqual(caught.exception.party, party)

    def test_it_is_the_least_purse(self):
        chance = random.Random(4)
        for _ in range(1000):
            told = [chance.choice(["ab", "ba", "ca", "bc"]) + str(chance.randint(0, 5)) if chance.random() < 0.8 else "D"
                    for _ in range(chance.randint(0, 8))]
            needed = chance.randint(0, 4)
            fine = [purse for purse in range(60) if self.is_enough(purse, told, needed)]
            self.assertEqual(run_need(told, "a", needed=needed), fine[0])

    def is_enough(self, purse, told, needed):
        for text in told:
            if text[:1] == "a":
                purse -= int(text[2:])
            elif text[1:2] == "a":
                purse += int(text[2:])
            if purse < 0:
                return False
        return purse >= needed

    def test_history(self):
        self.assertEqual(history_of(("ab5", "D", "ba3", "E", "D")), "DED")
        self.assertEqual(history_of(["Z"]), "Z")
        self.assertEqual(history_of(()), "")
        self.assertEqual(history_of(("ab5",)), "")


if __name__ == "__main__":
    unittest.main()
