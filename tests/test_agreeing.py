import random
import unittest

from signedpacts.agreeing import agree
from signedpacts.deciders import Decider
from signedpacts.drafts import Draft
from signedpacts.errors import BadBit, BadClause, BadFate, BadText, CannotDecide, Missing, NotAllowed, SameLabel
from signedpacts.exchanges import Exchange
from signedpacts.losses import rounds_needed
from tests.plain import all_texts
from tests.plain_notices import ENDS, FATES, NAMED_RULES, allowed, named_rule, some_rule
from tests.raising import Raising

DRAFT = Draft([("add", (1, "a"), None, "ab5"), ("change", (2, "a"), ((1, "a"),), "ab6")])
MORE = ("add", (3, "b"), (1, "a"), "D")
WITH_MORE = Draft([*DRAFT.amendments, MORE])


class Agree(Raising):
    def test_all_allowed_fates(self):
        chance = random.Random(141)
        told = {}
        for rule in [*map(named_rule, NAMED_RULES), *(some_rule(chance, 4) for _ in range(80))]:
            needed = rounds_needed(rule)
            if needed is None or not rule.unending().rows:
                continue
            for fates in allowed(rule, needed):
                for wishes in ((0, 0), (0, 1), (1, 0), (1, 1)):
                    pair = agree(rule, DRAFT, MORE, wishes, fates)
                    self.assertIs(type(pair), tuple)
                    self.assertEqual(pair[0], pair[1])
                    self.assertIn(pair[0], (DRAFT, WITH_MORE))
                    if wishes[0] == wishes[1]:
                        self.assertEqual(pair[0] == WITH_MORE, wishes[0] == 1)
                    decided = Decider(rule)("second", Exchange(*wishes, fates).seen("second"))
                    self.assertEqual(pair[1] == WITH_MORE, decided == 1)
                    told[decided] = told.get(decided, 0) + 1
        self.assertGreater(min(told.values()), 100)

    def test_lists_and_amendments_that_are_there(self):
        rule = named_rule("none")
        self.assertEqual(agree(rule, DRAFT, ["add", [3, "b"], [1, "a"], "D"], [1, 1], "b"), (WITH_MORE, WITH_MORE))
        self.assertEqual(agree(rule, WITH_MORE, MORE, (0, 0), "b"), (WITH_MORE, WITH_MORE))
        self.assertEqual(agree(rule, WITH_MORE, MORE, (1, 1), "b"), (WITH_MORE, WITH_MORE))
        self.assertEqual(agree(rule, Draft([]), ("add", (10 ** 9 + 1, "f"), None, "."), (1, 1), "b")[1].order(), ((10 ** 9 + 1, "f"),))
        self.assertEqual(DRAFT.order(), ((1, "a"),))

    def test_fates_that_are_not_allowed(self):
        for name in ("none", "first", "once", "deep"):
            rule = named_rule(name)
            fine = allowed(rule, rounds_needed(rule))
            for fates in all_texts(FATES, 3):
                if fates not in fine:
                    self.raises(NotAllowed, {}, agree, rule, DRAFT, MORE, (1, 1), fates)
        # An empty rule needs no rounds and allows no text.
        for name in ("empty", "dead"):
            for fates in ("", "b", "bfsn"):
                self.raises(NotAllowed, {}, agree, named_rule(name), DRAFT, MORE, (1, 1), fates)

    def test_errors_in_their_order(self):
        every, once = named_rule("all"), named_rule("once")
        same, missing, no_clause = ("add", (1, "a"), None, "D"), ("strike", (3, "a"), (2, "a")), (*MORE[:3], "D,")
        for fates, at in (("x", 0), ("bfsnx", 4), ("b" * 60 + "?", 60)):
            self.raises(BadFate, {"at": at}, agree, every, DRAFT, same, (2, 3), fates)
        for wishes, bit in (((2, 3), 2), ((0, -1), -1), ([1, 2], 2)):
            self.raises(BadBit, {"bit": bit}, agree, every, DRAFT, same, wishes, "b" * 7)
        for rule in (every, once):
            self.raises(SameLabel, {"label": (1, "a")}, agree, rule, DRAFT, same, (1, 1), "nnn")
            self.raises(Missing, {"label": (3, "a")}, agree, rule, DRAFT, missing, (0, 0), "nnn")
            error = self.raises(BadClause, {"label": (3, "b")}, agree, rule, DRAFT, no_clause, (0, 0), "nnn")
            self.assertIsInstance(error.__cause__, BadText)
        for name in ("all", "one", "nothing"):
            self.raises(CannotDecide, {}, agree, named_rule(name), DRAFT, MORE, (1, 1), "b")
        self.raises(NotAllowed, {}, agree, once, DRAFT, MORE, (1, 1), "ff")
        self.raises(NotAllowed, {}, agree, once, DRAFT, MORE, (1, 1), "b")


if __name__ == "__main__":
    unittest.main()
