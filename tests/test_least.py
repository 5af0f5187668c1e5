import inspect
import random
import unittest

from signedpacts.claims import keeps
from signedpacts.countsets import CountSet
from signedpacts.errors import BadWidth, UnknownName
from signedpacts.grammars import Grammar
from signedpacts.least import breaking, least_set, telling
from tests.plain_grammars import EXAMPLE, are_steps, least_sets, row_of, some_grammar

DEAD = Grammar(2, ["S", "T"], [("S", (1, 2), ["T"]), ("T", (0, 1), ["S"])])
GREAT = 10 ** 299


def long_chain(width):
    """A chain of 800 names with two rules each, where N0 stands at the top."""
    chance = random.Random(1)
    names = [f"N{at}" for at in range(800)]
    rules = [(name, [chance.randint(-9, 9) for _ in range(width)], below) for _ in range(2)
             for name, below in zip(names, [*[[name] for name in names[1:]], []])]
    return Grammar(width, names, rules)


class LeastSets(unittest.TestCase):
    def test_example(self):
        counts = least_set(EXAMPLE, "S")
        self.assertEqual((counts.width, counts.start, counts.steps), (2, (0, 0), ((1, 2), (0, 6))))
        self.assertEqual(least_set(EXAMPLE, "T"), CountSet(2, start=(0, 0), steps=[(3, 0)]))

    def test_without_derivations(self):
        for grammar in (DEAD, Grammar(2, ["S", "T"], [])):
            for name in ("S", "T"):
                self.assertEqual(least_set(grammar, name), CountSet(2))

    def test_what_is_not_live_adds_nothing(self):
        rules = [("S", (1, 0), []), ("S", (0, 1), ["T"]), ("S", (5, 0), ["S", "S"]), ("T", (0, 1), ["T"]),
                 ("U", (0, 7), []), ("U", (0, 9), [])]
        self.assertEqual(least_set(Grammar(2, ["S", "T", "U"], rules), "S"), CountSet(2, start=(1, 0), steps=[(6, 0)]))

    def test_against_adding_rules_until_nothing_is_new(self):
        chance = random.Random(2)
        for _ in range(400):
            grammar = some_grammar(chance)
            found = least_sets(grammar)
            for name in grammar.names:
                self.assertEqual(least_set(grammar, name), found[name])

    def test_unknown_names(self):
        for grammar in (EXAMPLE, DEAD):
            for name in ("U", "", "s"):
                for call in (least_set, lambda *given: list(telling(*given)),
                             lambda *given: breaking(*given, ((1, 1), 0, 0)),
                             lambda *given: breaking(*given, ((1,), 0, 0))):
                    with self.assertRaises(UnknownName) as caught:
                        call(grammar, name)
                    self.assertEqual(caught.exception.name, name)

    def test_great_grammars(self):
        grammar = long_chain(3)
        self.assertEqual(least_set(grammar, "N0").rank, 3)
        rules = [("S", (GREAT, 1), ["S"] * 100), ("S", (-GREAT, 2), [])]
        counts = least_set(Grammar(2, ["S"], rules), "S")
        self.assertEqual(counts, CountSet(2, start=(-GREAT, 2), steps=[(-98 * GREAT, 199)]))

    def test_nothing_is_changed(self):
        before = EXAMPLE.names, EXAMPLE.rules
        one = [least_set(EXAMPLE, "S"), [sum_of.steps for sum_of in telling(EXAMPLE, "S")]]
        self.assertEqual(one, [least_set(EXAMPLE, "S"), [sum_of.steps for sum_of in telling(EXAMPLE, "S")]])
        self.assertEqual((EXAMPLE.names, EXAMPLE.rules), before)


class Telling(unittest.TestCase):
    def check(self, grammar, name, found):
        """The derivations of the name tell its least set, and each one tells something."""
        rows = []
        for derivation in found:
            self.assertEqual(derivation.root, name)
            self.assertIs(derivation.grammar, grammar)
            self.assertTrue(are_steps(grammar, derivation.steps) and len(derivation.steps) <= 2400)
            self.assertEqual(derivation.total, row_of(grammar, derivation.steps))
            self.assertNotIn(derivation.total, CountSet.around(grammar.width, rows[:40]))
            rows.append(derivation.total)
        self.assertLessEqual(len(found), len(grammar.rules))
        self.assertEqual(CountSet.around(grammar.width, rows), least_set(grammar, name))

    def test_is_a_generator(self):
        self.assertTrue(inspect.isgeneratorfunction(telling))

    def test_example(self):
        self.check(EXAMPLE, "S", list(telling(EXAMPLE, "S")))
        self.assertEqual(len(list(telling(EXAMPLE, "S"))), 3)

    def test_nothing_without_derivations(self):
        for grammar in (DEAD, Grammar(2, ["S", "T"], [])):
            self.assertEqual(list(telling(grammar, "S")), [])

    def test_no_more_than_there_are_rules(self):
        for many in (1, 2, 5):
            grammar = Grammar(5, ["S"], [("S", [int(at == column) for column in range(5)], []) for at in range(many)])
            self.assertEqual(len(list(telling(grammar, "S"))), many)

    def test_against_the_least_set(self):
        chance = random.Random(3)
        for _ in range(300):
            grammar = some_grammar(chance)
            for name in grammar.names:
                self.check(grammar, name, list(telling(grammar, name)))

    def test_long_ways(self):
        grammar = long_chain(3)
        found = list(telling(grammar, "N0"))
        self.check(grammar, "N0", found)
        names = [f"N{at}" for at in range(800)]
        # The way to the rule of the last name is as long as it can be, and all names are used besides it.
        rules = [(names[at], (0,), [names[at + 1], names[min(at + 2, 799)]]) for at in range(799)]
        grammar = Grammar(1, names, [*rules, ("N799", (0,), []), ("N799", (1,), [])])
        found = list(telling(grammar, "N0"))
        self.check(grammar, "N0", found)
        self.assertEqual(least_set(grammar, "N0"), CountSet(1, start=(0,), steps=[(1,)]))

    def test_rows_that_only_tell_a_little_each(self):
        rules = [("S", (0,), [])] + [("S", (2 ** (20 - at),), []) for at in range(20)]
        grammar = Grammar(1, ["S"], rules)
        self.check(grammar, "S", list(telling(grammar, "S")))


class Breaking(unittest.TestCase):
    def test_example(self):
        self.assertIsNone(breaking(EXAMPLE, "S", ((2, -1), 0, 6)))
        self.assertIsNone(breaking(EXAMPLE, "T", ([0, 1], 0, 0)))
        derivation = breaking(EXAMPLE, "S", ((2, -1), 0, 4))
        self.assertEqual(derivation.root, "S")
        self.assertFalse(keeps(derivation.total, ((2, -1), 0, 4)))
        self.assertEqual(breaking(EXAMPLE, "T", ((1, 0), 1, 0)).root, "T")

    def test_against_the_least_set(self):
        chance = random.Random(4)
        for _ in range(400):
            grammar = some_grammar(chance)
            found = least_sets(grammar)
            for name in grammar.names:
                claims = [*found[name].claims(), ([chance.randint(-2, 2) for _ in range(grammar.width)],
                                                  chance.randint(-2, 2), chance.choice([0, 0, 1, 2, 3, 4]))]
                for claim in claims:
                    derivation = breaking(grammar, name, claim)
                    if found[name].holds(claim):
                        self.assertIsNone(derivation)
                    else:
                        self.assertEqual(derivation.root, name)
                        self.assertTrue(are_steps(grammar, derivation.steps))
                        self.assertFalse(keeps(row_of(grammar, derivation.steps), claim))

    def test_without_derivations(self):
        self.assertIsNone(breaking(DEAD, "S", ((1, 1), 5, 0)))
        self.assertIsNone(breaking(DEAD, "S", ((0, 0), 1, 0)))

    def test_bad_widths(self):
        for grammar in (EXAMPLE, DEAD):
            for coefs in ((), (1,), (1, 2, 3)):
                with self.assertRaises(BadWidth) as caught:
                    breaking(grammar, "S", (coefs, 0, 0))
                self.assertEqual(caught.exception.width, len(coefs))


if __name__ == "__main__":
    unittest.main()
