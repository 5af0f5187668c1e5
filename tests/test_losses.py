import random
import unittest

from signedpacts.errors import BadCount
from signedpacts.losses import closed_states, passable, rounds_needed, swapped
from signedpacts.machines import Machine
from tests.plain_notices import FATES, allowed, layered_rule, named_rule, shortest_chain, some_rule
from tests.raising import Raising

# A rule that only counts: after many rounds every letter arrives.
COUNTING = Machine(FATES, [[at + 1] * 3 + [None] for at in range(11)] + [[11, None, None, None]])


def plain_passable(rows, rounds):
    """The states that are passable for so many rounds, as [74] says it."""
    if rounds == 0:
        return tuple(range(len(rows)))
    before = plain_passable(rows, rounds - 1)
    return tuple(state for state, (b, f, s, n) in enumerate(rows) if n in before or all(one in before for one in (b, f, s)))


def some_rules(seed, many):
    chance = random.Random(seed)
    return [chance.choice([some_rule(chance, chance.choice([2, 4, 8, 12])), layered_rule(chance)]) for _ in range(many)]


class Swapped(Raising):
    def test_named_rules(self):
        self.assertEqual(swapped(named_rule("first")), named_rule("second").unending())
        for name in ("all", "one", "none", "nothing", "once", "empty", "dead", "late"):
            self.assertEqual(swapped(named_rule(name)), named_rule(name).unending())
        self.assertEqual(swapped(named_rule("dead")).rows, ())

    def test_random_rules(self):
        for rule in some_rules(101, 150):
            turned = swapped(rule)
            self.assertEqual(turned.letters, FATES)
            for rounds in range(4):
                wanted = sorted(text.translate({102: "s", 115: "f"}) for text in allowed(rule, rounds))
                self.assertEqual(sorted(turned.texts(rounds)), wanted)
            self.assertEqual(swapped(turned), rule.unending())


class Passable(Raising):
    def test_named_rules(self):
        for name, wanted in (("all", [(0,), (0,), (0,)]), ("one", [(0,), (0,), (0,)]), ("nothing", [(0,), (0,), (0,)]),
                             ("first", [(0,), (), ()]), ("none", [(0,), (), ()]), ("empty", [(), (), ()]),
                             ("dead", [(), (), ()]), ("once", [(0, 1), (0,), ()]), ("late", [(0, 1), (0,), ()])):
            self.assertEqual([passable(named_rule(name), rounds=rounds) for rounds in range(3)], wanted, name)

    def test_random_rules(self):
        for rule in some_rules(102, 200):
            rows = rule.unending().rows
            for rounds in (0, 1, 2, 3, 5, 12, 40):
                self.assertEqual(passable(rule, rounds=rounds), plain_passable(rows, rounds))

    def test_chains_go_through_passable_states(self):
        seen = {True: 0, False: 0}
        for rule in some_rules(103, 120):
            for rounds in range(4):
                is_chain = 0 in passable(rule, rounds=rounds)
                self.assertEqual(is_chain, shortest_chain(rule, rounds) is not None)
                seen[is_chain] += 1
        self.assertGreater(min(seen.values()), 100)

    def test_counting(self):
        self.assertEqual([len(passable(COUNTING, rounds=rounds)) for rounds in (0, 1, 2, 11, 12, 40)], [12, 11, 10, 1, 0, 0])

    def test_bad_rounds(self):
        for rounds in (-1, 41, 10 ** 300):
            for name in ("all", "empty"):
                self.raises(BadCount, {"value": rounds}, passable, named_rule(name), rounds=rounds)
        with self.assertRaises(TypeError):
            passable(named_rule("all"), 1)


class ClosedStates(Raising):
    def test_named_rules(self):
        for name, wanted in (("all", (0,)), ("one", (0,)), ("first", ()), ("once", ()), ("empty", ()), ("dead", ()),
                             ("twice", ()), ("deep", ()), ("nothing", (0,))):
            self.assertEqual(closed_states(named_rule(name)), wanted, name)
        # Behind one sure round, everything may be lost.
        self.assertEqual(closed_states(Machine(FATES, [[1, None, None, None], [1, 1, 1, None]])), (1,))

    def test_random_rules(self):
        for rule in some_rules(104, 300):
            rows, found = rule.unending().rows, closed_states(rule)
            states = list(range(len(rows)))
            while True:
                fewer = [state for state in states if rows[state][3] in states or all(one in states for one in rows[state][:3])]
                if fewer == states:
                    break
                states = fewer
            self.assertEqual(found, tuple(states))
            self.assertEqual(found, passable(rule, rounds=40))


class RoundsNeeded(Raising):
    def test_named_rules(self):
        for name, wanted in (("all", None), ("one", None), ("nothing", None), ("first", 1), ("second", 1), ("none", 1),
                             ("once", 2), ("twice", 3), ("deep", 4), ("late", 2), ("empty", 0), ("dead", 0)):
            self.assertEqual(rounds_needed(named_rule(name)), wanted, name)
        self.assertEqual(rounds_needed(COUNTING), 12)

    def test_random_rules(self):
        seen = {}
        for rule in some_rules(105, 400):
            needed, states = rounds_needed(rule), len(rule.unending().rows)
            if needed is None:
                self.assertIn(0, closed_states(rule))
            else:
                self.assertTrue(needed <= states and needed + (states == 0) > 0)
                self.assertNotIn(0, passable(rule, rounds=needed))
                self.assertTrue(needed == 0 or 0 in passable(rule, rounds=needed - 1))
            seen[needed] = seen.get(needed, 0) + 1
        self.assertTrue(all(seen.get(many, 0) > 5 for many in (None, 0, 1, 2)), seen)


if __name__ == "__main__":
    unittest.main()
