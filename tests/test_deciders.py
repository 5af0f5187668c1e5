import random
import time
import unittest

from signedpacts.deciders import Decider
from signedpacts.errors import BadCount, BadEnd, CannotDecide, NeverSeen
from signedpacts.exchanges import Exchange
from signedpacts.losses import rounds_needed
from signedpacts.machines import Machine
from tests.plain import all_texts
from tests.plain_notices import ENDS, FATES, allowed, layered_rule, named_rule, plain_view, some_rule, tied_views
from tests.raising import Raising

BITS = [(0, 0), (0, 1), (1, 0), (1, 1)]


class Deciders(Raising):
    def test_numbers_of_rounds(self):
        for name, needed in (("first", 1), ("once", 2), ("deep", 4), ("empty", 0), ("dead", 0)):
            self.assertEqual(Decider(named_rule(name)).round_count, needed)
            self.assertEqual(Decider(named_rule(name), rounds=None).round_count, needed)
            for rounds in (needed, needed + 1, 40):
                self.assertEqual(Decider(named_rule(name), rounds=rounds).round_count, rounds)
            for rounds in range(needed):
                self.raises(CannotDecide, {}, Decider, named_rule(name), rounds=rounds)
        for name in ("all", "one", "nothing"):
            self.raises(CannotDecide, {}, Decider, named_rule(name))
            for rounds in (0, 1, 40):
                self.raises(CannotDecide, {}, Decider, named_rule(name), rounds=rounds)
        for rounds in (-1, 41, 10 ** 100):
            for name in ("all", "once", "empty"):
                self.raises(BadCount, {"value": rounds}, Decider, named_rule(name), rounds=rounds)
        with self.assertRaises(TypeError):
            Decider(named_rule("once"), 2)

    def test_small_decisions(self):
        decider = Decider(named_rule("once"))
        for end, view, wanted in (("first", (0, 0, "", 1), 0), ("second", (1, 1, "", 1), 1), ("first", (1, 1, "b", 0), 1)):
            self.assertEqual(decider(end, view), wanted)
        # No letter is lost behind a lost one.
        for end in ENDS:
            self.raises(NeverSeen, {"view": (0, None, "", 2)}, decider, end, (0, None, "", 2))
        # An end that has not heard of the other one decides on its own bit.
        first = Decider(named_rule("first"))
        self.assertEqual([first("second", (bit, None, "", 1)) for bit in (0, 1)], [0, 1])
        self.assertEqual([first("first", (1 - bit, bit, "", 0)) for bit in (0, 1)], [0, 1])
        none = Decider(named_rule("none"))
        self.assertEqual([none(end, (own, 1 - own, "", 0)) for end in ENDS for own in (0, 1)], [0, 1, 1, 0])

    def check_rule(self, rule, rounds, seen):
        """Checks all decisions after so many rounds against all exchanges."""
        decider, texts = Decider(rule, rounds=rounds), allowed(rule, rounds)
        for bits in BITS:
            tied = tied_views(rule, rounds, *bits)
            for fates in texts:
                views = [plain_view(Exchange(*bits, fates), end) for end in ENDS]
                told = [decider(end, view) for end, view in zip(ENDS, views)]
                self.assertEqual(told[0], told[1])
                self.assertTrue(bits[0] != bits[1] or told[0] == bits[0])
                for end, view in zip(ENDS, views):
                    if view[1] is None:
                        self.assertEqual(decider(end, view), view[0])
                    elif bits[0] != bits[1]:
                        self.assertEqual(decider(end, view), bits[1] if (end, view) in tied else bits[0])
                        seen[(end, (end, view) in tied)] = seen.get((end, (end, view) in tied), 0) + 1

    def test_all_decisions_of_few_rounds(self):
        chance = random.Random(111)
        seen, checked = {}, 0
        rules = [named_rule(name) for name in ("first", "second", "none", "once", "twice", "late", "deep", "crossed", "turned")]
        some = [chance.choice([some_rule(chance, 4), layered_rule(chance), layered_rule(chance)]) for _ in range(500)]
        for rule in [*rules, *some]:
            needed = rounds_needed(rule)
            for rounds in range(5 if needed is None else needed, 5):
                if len(rule.unending().rows) and (rounds < 4 or chance.random() < 0.2):
                    self.check_rule(rule, rounds, seen)
                    checked += 1
        self.assertTrue(checked > 100 and len(seen) == 4 and min(seen.values()) > 100, seen)

    def test_views_that_are_never_seen(self):
        chance = random.Random(112)
        seen = {True: 0, False: 0}
        every = [(own, other, known, silent) for own in (0, 1) for other in (0, 1, None) for known in all_texts(FATES, 3)
                 for silent in range(5)]
        for name in ("first", "once", "twice", "late", "none", "crossed", "turned", "dead", "empty"):
            rule = named_rule(name)
            for rounds in range(rounds_needed(rule), 4):
                decider, shown = Decider(rule, rounds=rounds), {end: set() for end in ENDS}
                for fates in allowed(rule, rounds):
                    for bits in BITS:
                        for end in ENDS:
                            shown[end].add(plain_view(Exchange(*bits, fates), end))
                for end in ENDS:
                    for view in chance.sample(every, 300) + sorted(shown[end], key=str):
                        if view in shown[end]:
                            self.assertIn(decider(end, view), (0, 1))
                        else:
                            self.raises(NeverSeen, {"view": view}, decider, end, view)
                        seen[view in shown[end]] += 1
        self.assertGreater(min(seen.values()), 200)

    def test_long_views(self):
        began = time.monotonic()
        chance = random.Random(113)
        rules = [named_rule("once"), named_rule("twice"), *(some_rule(chance, 12) for _ in range(40))]
        for rule in [rule for rule in rules if rounds_needed(rule)]:
            decider = Decider(rule, rounds=40)
            for _ in range(20):
                rows, state, fates = rule.unending().rows, 0, ""
                for _ in range(40):
                    fate = chance.choice([fate for fate, entry in zip(FATES, rows[state]) if entry is not None])
                    fates, state = fates + fate, rows[state][FATES.index(fate)]
                for bits in BITS:
                    told = {decider(end, Exchange(*bits, fates).seen(end)) for end in ENDS}
                    self.assertTrue(len(told) == 1 and told <= set(bits))
            for view in ((0, None, "", 300), (0, 1, "b" * 299, 0), (1, 0, "b" * 100, 199), (1, 0, "", 40)):
                for end in ENDS:
                    self.raises(NeverSeen, {"view": view}, decider, end, view)
        self.assertLess(time.monotonic() - began, 20)

    def test_empty_rules(self):
        for name in ("empty", "dead"):
            for rounds in (0, 1, 7):
                decider = Decider(named_rule(name), rounds=rounds)
                for view in ((0, None, "", rounds), (0, 1, "", rounds - 1) if rounds else (0, 0, "", 0)):
                    self.raises(NeverSeen, {"view": view}, decider, "first", view)

    def test_errors_in_their_order(self):
        decider = Decider(named_rule("once"))
        for end in ("", "third", "First"):
            self.raises(BadEnd, {"end": end}, decider, end, (0, None, "", 77))
        view = [0, None, "", 77]
        self.assertIs(self.raises(NeverSeen, {"view": view}, decider, "first", view).view, view)
        self.assertEqual(decider("first", [0, 0, "b", 0]), decider("first", (0, 0, "b", 0)))

    def test_rules_that_are_not_unending(self):
        # Behind an f nothing goes on, so only b is allowed.
        rule = Machine(FATES, [[0, 1, None, None], [None, None, None, None]])
        decider = Decider(rule)
        self.assertEqual((decider.round_count, decider("first", (0, 1, "", 0))), (1, 0))
        self.raises(NeverSeen, {"view": (1, None, "", 1)}, decider, "second", (1, None, "", 1))


if __name__ == "__main__":
    unittest.main()
