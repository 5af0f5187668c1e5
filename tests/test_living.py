import random
import unittest

from signedpacts.errors import NoSum, UnknownName
from signedpacts.grammars import Grammar
from signedpacts.living import base_derivation, live_names
from tests.plain_grammars import EXAMPLE, are_steps, heights, some_grammar


class Living(unittest.TestCase):
    def test_live_names(self):
        self.assertEqual(live_names(EXAMPLE), ("S", "T"))
        rules = [("A", (), ["B"]), ("B", (), ["A"]), ("C", (), ["D", "D"]), ("D", (), []), ("E", (), ["D", "A"])]
        self.assertEqual(live_names(Grammar(0, ["F", "E", "D", "C", "B", "A"], rules)), ("D", "C"))

    def test_without_rules(self):
        self.assertEqual(live_names(Grammar(3, ["S", "T"], [])), ())

    def test_against_a_plain_search(self):
        chance = random.Random(1)
        for _ in range(500):
            grammar = some_grammar(chance)
            found = heights(grammar)
            self.assertEqual(live_names(grammar), tuple(name for name in grammar.names if name in found))
            for name in grammar.names:
                if name in found:
                    derivation = base_derivation(grammar, name)
                    self.assertEqual((derivation.root, derivation.height), (name, found[name]))
                    self.assertIs(derivation.grammar, grammar)
                    self.assertTrue(are_steps(grammar, derivation.steps))
                else:
                    with self.assertRaises(NoSum) as caught:
                        base_derivation(grammar, name)
                    self.assertEqual(caught.exception.name, name)

    def test_base_derivation(self):
        rules = [("S", (1,), ["S", "T"]), ("S", (2,), ["T", "T"]), ("T", (3,), ["U"]), ("U", (4,), []), ("T", (5,), ["S"])]
        derivation = base_derivation(Grammar(1, ["S", "T", "U"], rules), "S")
        self.assertEqual((derivation.total, derivation.size, derivation.height), ((16,), 5, 3))

    def test_unknown_names(self):
        for name in ("U", "", "s"):
            for grammar in (EXAMPLE, Grammar(1, ["S"], [])):
                with self.assertRaises(UnknownName) as caught:
                    base_derivation(grammar, name)
                self.assertEqual(caught.exception.name, name)

    def test_no_sum(self):
        for rules in ([], [("S", (1,), ["S"])], [("S", (1,), ["T"]), ("T", (1,), ["S"])]):
            with self.assertRaises(NoSum):
                base_derivation(Grammar(1, ["S", "T"], rules), "S")

    def test_as_many_names_as_there_may_be(self):
        names = [f"N{at}" for at in range(800)]
        rules = [(names[at], (1,), [names[at + 1]] * 100) for at in range(799)] + [(names[799], (1,), [])]
        grammar = Grammar(1, names, rules[::-1])
        self.assertEqual(live_names(grammar), tuple(names))
        derivation = base_derivation(grammar, "N0")
        self.assertEqual((derivation.height, len(derivation.steps)), (800, 800))
        self.assertTrue(derivation.size == sum(100 ** at for at in range(800)))
        self.assertEqual(live_names(Grammar(1, names, rules[:-1])), ())


if __name__ == "__main__":
    unittest.main()
