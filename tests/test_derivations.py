import random
import unittest

from signedpacts.derivations import Derivation
from signedpacts.errors import BadStep, UnknownName
from signedpacts.grammars import Grammar
from tests.plain_grammars import are_steps, row_of, some_grammar, written_out

RULES = [("S", (1, 0), ["S", "T"]), ("S", (0, 1), []), ("T", (5, 5), ["S"]), ("T", (0, -2), [])]
GRAMMAR = Grammar(2, ["S", "T", "U"], RULES)


def fields(derivation):
    return derivation.root, derivation.total, derivation.size, derivation.height, list(derivation.leftmost())


def some_steps(chance, grammar, many):
    """Steps of a derivation whose uses are chosen among the steps before; possibly none."""
    steps = []
    for _ in range(many):
        derived = {}
        for at, (number, _) in enumerate(steps):
            derived.setdefault(grammar.rules[number][0], []).append(at)
        able = [number for number, (_, _, uses) in enumerate(grammar.rules) if all(used in derived for used in uses)]
        if able:
            number = chance.choice(able)
            steps.append((number, [chance.choice(derived[used]) for used in grammar.rules[number][2]]))
    return steps


class DerivationTest(unittest.TestCase):
    def bad_step(self, at, call, *arguments):
        with self.assertRaises(BadStep) as caught:
            call(*arguments)
        self.assertEqual(caught.exception.at, at)


class Derivations(DerivationTest):
    def test_fields(self):
        derivation = Derivation(GRAMMAR, [(1, []), [3, ()], (0, [0, 1]), (2, (2,)), (0, (2, 3))])
        self.assertIs(derivation.grammar, GRAMMAR)
        self.assertEqual(derivation.steps, ((1, ()), (3, ()), (0, (0, 1)), (2, (2,)), (0, (2, 3))))
        self.assertEqual(fields(derivation), ("S", (8, 3), 8, 4, [0, 0, 1, 3, 2, 0, 1, 3]))

    def test_one_step(self):
        self.assertEqual(fields(Derivation(GRAMMAR, [(3, [])])), ("T", (0, -2), 1, 1, [3]))

    def test_steps_that_are_not_used_count_nothing(self):
        self.assertEqual(fields(Derivation(GRAMMAR, [(1, ()), (3, ()), (2, (0,)), (1, ())])), ("S", (0, 1), 1, 1, [1]))

    def test_the_arguments_are_copied(self):
        uses = [0]
        steps = [(1, ()), (2, uses)]
        derivation = Derivation(GRAMMAR, steps)
        uses[0] = 7
        steps.append((3, ()))
        self.assertEqual((derivation.steps, derivation.total), (((1, ()), (2, (0,))), (5, 6)))

    def test_against_writing_out(self):
        chance = random.Random(1)
        for _ in range(300):
            grammar = some_grammar(chance)
            steps = some_steps(chance, grammar, chance.randint(1, 7))
            if steps:
                derivation = Derivation(grammar, steps)
                row, size, height, rules = written_out(grammar, steps)
                self.assertEqual((derivation.total, derivation.size, derivation.height), (row, size, height))
                self.assertEqual(derivation.root, grammar.rules[steps[-1][0]][0])
                self.assertEqual(list(derivation.leftmost()), rules)

    def test_no_steps(self):
        for steps in ([], ()):
            self.bad_step(0, Derivation, GRAMMAR, steps)

    def test_bad_steps(self):
        fine = [(1, []), (3, []), (0, [0, 1])]
        for bad in ((4, []), (-1, []), (100, [0]), (1, [0]), (0, [0]), (0, [0, 1, 1]), (2, []), (0, [0, 0]), (0, [1, 1]),
                    (0, [1, 0]), (2, [1]), (2, [3]), (2, [4]), (2, [-1]), (2, [-3]), (0, [0, 3])):
            self.bad_step(3, Derivation, GRAMMAR, [*fine, bad])
            self.bad_step(3, Derivation, GRAMMAR, [*fine, bad, bad, (9, [])])
            self.bad_step(0, Derivation, GRAMMAR, [bad, *fine])
        self.bad_step(0, Derivation, Grammar(1, ["S"], []), [(0, [])])

    def test_bad_steps_against_a_plain_check(self):
        chance = random.Random(2)
        for _ in range(1000):
            grammar = some_grammar(chance, names=3, rules=5)
            steps = [(chance.randint(-1, 5), [chance.randint(-1, at) for _ in range(chance.choice([0, 0, 1, 3]))])
                     for at in range(chance.randint(1, 3))]
            wrong = [at for at in range(len(steps)) if not are_steps(grammar, steps[:at + 1])]
            if wrong:
                self.bad_step(wrong[0], Derivation, grammar, steps)
            else:
                self.assertEqual(Derivation(grammar, steps).total, row_of(grammar, steps))

    def test_as_many_steps_as_there_may_be(self):
        grammar = Grammar(1, ["S"], [("S", (1,), ["S", "S"]), ("S", (1,), [])])
        derivation = Derivation(grammar, [(1, ())] + [(0, (at, at)) for at in range(2399)])
        self.assertEqual(derivation.height, 2400)
        self.assertTrue(derivation.size == 2 ** 2400 - 1 == derivation.total[0])

    def test_a_size_of_a_thousand(self):
        grammar = Grammar(0, ["S"], [("S", (), ["S"]), ("S", (), [])])
        derivation = Derivation(grammar, [(1, ())] + [(0, (at,)) for at in range(999)])
        self.assertEqual((derivation.size, list(derivation.leftmost())), (1000, [0] * 999 + [1]))

    def test_asked_again_and_two_at_once(self):
        derivation = Derivation(GRAMMAR, [(1, []), (3, []), (0, [0, 1])])
        self.assertEqual(fields(derivation), fields(derivation))
        one, other = derivation.leftmost(), derivation.leftmost()
        self.assertEqual([next(one), next(one), next(other), next(one), next(other)], [0, 1, 0, 3, 1])


class FromRules(DerivationTest):
    def test_fields(self):
        derivation = Derivation.from_rules(GRAMMAR, "S", [0, 0, 1, 3, 2, 0, 1, 3])
        self.assertEqual(fields(derivation), ("S", (8, 3), 8, 4, [0, 0, 1, 3, 2, 0, 1, 3]))
        self.assertIs(derivation.grammar, GRAMMAR)
        self.assertTrue(are_steps(GRAMMAR, derivation.steps))

    def test_gives_back_what_leftmost_yields(self):
        chance = random.Random(3)
        for _ in range(300):
            grammar = some_grammar(chance)
            steps = some_steps(chance, grammar, chance.randint(1, 7))
            if steps:
                derivation = Derivation(grammar, steps)
                numbers = list(derivation.leftmost())
                again = Derivation.from_rules(grammar, derivation.root, tuple(numbers))
                self.assertEqual(fields(again), fields(derivation))

    def test_unknown_names(self):
        for name in ("", "V", "s"):
            for numbers in ([], [9], [1]):
                with self.assertRaises(UnknownName) as caught:
                    Derivation.from_rules(GRAMMAR, name, numbers)
                self.assertEqual(caught.exception.name, name)

    def test_wrong_numbers(self):
        for numbers, at in (([4], 0), ([-1], 0), ([-3], 0), ([2], 0), ([0, 2], 1), ([0, 1, 1], 2), ([0, 1, 0], 2),
                            ([0, 1, 2, 3], 3), ([0, 1, 2, 9, -1], 3), ([0, 1, 3, 9, 9], 3)):
            self.bad_step(at, Derivation.from_rules, GRAMMAR, "S", numbers)

    def test_complete_already(self):
        for numbers, at in (([1, 1], 1), ([1, 77], 1), ([0, 1, 3, 1, 1], 3)):
            self.bad_step(at, Derivation.from_rules, GRAMMAR, "S", numbers)
        self.bad_step(1, Derivation.from_rules, GRAMMAR, "T", [3, 3])

    def test_too_few_numbers(self):
        for numbers in ([], [0], [0, 1], [0, 0, 1, 3], [0, 1, 2]):
            self.bad_step(len(numbers), Derivation.from_rules, GRAMMAR, "S", numbers)
        # U is a name of the grammar, but it has no rule.
        self.bad_step(0, Derivation.from_rules, GRAMMAR, "U", [])
        self.bad_step(0, Derivation.from_rules, GRAMMAR, "U", [0])

    def test_a_thousand_numbers(self):
        grammar = Grammar(1, ["S"], [("S", (1,), ["S"] * 37), ("S", (2,), [])])
        numbers = [0] * 27 + [1] * 973
        derivation = Derivation.from_rules(grammar, "S", numbers)
        self.assertEqual(fields(derivation), ("S", (27 + 2 * 973,), 1000, 28, numbers))
        self.bad_step(1000, Derivation.from_rules, grammar, "S", [*numbers, 1])
        self.bad_step(999, Derivation.from_rules, grammar, "S", numbers[:999])


if __name__ == "__main__":
    unittest.main()
