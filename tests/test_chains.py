import random
import time
import unittest

from signedpacts.chains import Chain
from signedpacts.deciders import Decider
from signedpacts.errors import BadCount, CannotDecide, NoChain, OutOfChain
from signedpacts.exchanges import Exchange
from signedpacts.losses import passable
from signedpacts.machines import Machine
from tests.plain_notices import ENDS, FATES, NAMED_RULES, allowed, layered_rule, named_rule, plain_view, shortest_chain, some_rule
from tests.raising import Raising


def told(exchange):
    return exchange.first_bit, exchange.second_bit, exchange.fates


def plain_passages(rows, state, rounds):
    """All passages of a state, as [77] says it."""
    if rounds == 0:
        return [[""]]
    b, f, s, n = rows[state]
    found = []
    if n is not None:
        found += [["n" + text for text in one] for one in plain_passages(rows, n, rounds - 1)]
    if None not in (b, f, s):
        for one in plain_passages(rows, s, rounds - 1):
            for other in plain_passages(rows, b, rounds - 1):
                for last in plain_passages(rows, f, rounds - 1):
                    found.append(["s" + text for text in one] + ["b" + text for text in other[::-1]] + ["f" + text for text in last])
    return found


class Chains(Raising):
    def check_links(self, chain, positions):
        """Checks that the exchanges at the positions are alike to those behind them."""
        for at in positions:
            one, other = chain[at], chain[at + 1]
            self.assertTrue(any(plain_view(one, end) == plain_view(other, end) for end in ENDS), at)

    def check_ends(self, chain):
        first, last = chain[0], chain[chain.length - 1]
        self.assertEqual([told(first)[:2], told(last)[:2]], [(0, 0), (1, 1)])
        self.assertEqual({told(chain[1])[:2], told(chain[chain.length - 2])[:2]}, {(0, 1)})
        self.assertEqual((chain[1].fates, chain[chain.length - 2].fates), (first.fates, last.fates))

    def test_small_chains(self):
        self.assertEqual([told(Chain(named_rule("all"), rounds=0)[at]) for at in range(3)], [(0, 0, ""), (0, 1, ""), (1, 1, "")])
        self.assertEqual(Chain(named_rule("all"), rounds=0).length, 3)
        chain = Chain(named_rule("one"), rounds=1)
        self.assertEqual([told(chain[at]) for at in range(chain.length)],
                         [(0, 0, "s"), (0, 1, "s"), (0, 1, "b"), (0, 1, "f"), (1, 1, "f")])
        chain = Chain(named_rule("all"), rounds=2)
        self.assertEqual([told(chain[at]) for at in range(chain.length)], [(0, 0, "nn"), (0, 1, "nn"), (1, 1, "nn")])

    def test_the_shorter_one_of_two_passages(self):
        chains = [Chain(named_rule("detour"), rounds=rounds) for rounds in range(5)]
        self.assertEqual([chain.length for chain in chains], [3, 3, 5, 5, 5])
        self.assertEqual([told(chains[3][at]) for at in range(5)],
                         [(0, 0, "snn"), (0, 1, "snn"), (0, 1, "bnn"), (0, 1, "fnn"), (1, 1, "fnn")])

    def test_random_rules(self):
        chance = random.Random(121)
        seen = {}
        some = [chance.choice([some_rule(chance, chance.choice([2, 4, 6])), layered_rule(chance)]) for _ in range(300)]
        for rule in [*map(named_rule, NAMED_RULES), *some]:
            for rounds in range(5):
                shortest = shortest_chain(rule, rounds)
                if shortest is None:
                    self.raises(NoChain, {}, Chain, rule, rounds=rounds)
                    Decider(rule, rounds=rounds)
                    continue
                self.raises(CannotDecide, {}, Decider, rule, rounds=rounds)
                chain, texts = Chain(rule, rounds=rounds), allowed(rule, rounds)
                self.assertEqual(chain.length, shortest)
                self.assertTrue(all(chain[at].fates in texts for at in range(shortest)))
                self.check_links(chain, range(shortest - 1))
                self.check_ends(chain)
                if rounds < 4:
                    passage = [chain[at].fates for at in range(1, shortest - 1)]
                    self.assertIn(passage, plain_passages(rule.unending().rows, 0, rounds))
                seen[shortest] = seen.get(shortest, 0) + 1
        self.assertTrue(len(seen) > 8 and seen[3] > 50, seen)

    def test_long_chains(self):
        began = time.monotonic()
        chain = Chain(named_rule("one"), rounds=40)
        self.assertEqual(chain.length, 3 ** 40 + 2)
        self.assertGreater(chain.length, 10 ** 19)
        self.check_ends(chain)
        self.assertEqual((told(chain[0]), told(chain[chain.length - 1])), ((0, 0, "s" * 40), (1, 1, "f" * 40)))
        third = 3 ** 39
        middle = [0, 1, 2, third - 1, third, third + 1, 2 * third - 1, 2 * third, 2 * third + 1, chain.length - 3, chain.length - 2]
        self.check_links(chain, middle)
        chance = random.Random(122)
        self.check_links(chain, [chance.randrange(chain.length - 1) for _ in range(1500)])
        # Different positions have different texts.
        self.assertEqual(len({chain[at].fates for at in range(third - 500, third + 500)}), 1000)
        self.assertLess(time.monotonic() - began, 20)

    def test_long_chains_of_random_rules(self):
        chance = random.Random(123)
        longest = 0
        for _ in range(60):
            rule = some_rule(chance, 12)
            if 0 not in passable(rule, rounds=40):
                self.raises(NoChain, {}, Chain, rule, rounds=40)
                continue
            chain = Chain(rule, rounds=40)
            self.check_links(chain, [chance.randrange(chain.length - 1) for _ in range(50)])
            self.check_ends(chain)
            texts = rule.unending()
            self.assertTrue(all(chain[chance.randrange(chain.length)].fates in texts for _ in range(20)))
            longest = max(longest, chain.length)
        self.assertGreater(longest, 10 ** 6)

    def test_the_same_exchanges_again(self):
        rule = Machine(FATES, [[1, 1, 1, 1], [0, 0, 0, None]])
        chain = Chain(rule, rounds=9)
        first = [told(chain[at]) for at in range(chain.length)]
        self.assertEqual([told(chain[at]) for at in reversed(range(chain.length))][::-1], first)
        self.assertEqual([told(Chain(rule, rounds=9)[at]) for at in range(chain.length)], first)
        self.assertIsInstance(chain[0], Exchange)

    def test_positions(self):
        for rounds in (0, 1, 40):
            chain = Chain(named_rule("one"), rounds=rounds)
            for at in (-1, chain.length, chain.length + 1, -chain.length, 10 ** 300):
                self.raises(OutOfChain, {"position": at}, lambda: chain[at])

    def test_errors_in_their_order(self):
        for rounds in (-1, 41, 10 ** 300):
            for name in ("one", "empty", "none"):
                self.raises(BadCount, {"value": rounds}, Chain, named_rule(name), rounds=rounds)
        for name in ("empty", "dead"):
            for rounds in (0, 1, 40):
                self.raises(NoChain, {}, Chain, named_rule(name), rounds=rounds)
        self.raises(NoChain, {}, Chain, named_rule("once"), rounds=2)
        self.assertEqual(Chain(named_rule("once"), rounds=1).length, 5)


if __name__ == "__main__":
    unittest.main()
