import itertools
import random
import time
import unittest

from signedpacts.balances import balance_row, balances
from signedpacts.derivations import Derivation
from signedpacts.errors import BadMark, BadParty
from signedpacts.least import least_set, telling
from signedpacts.living import base_derivation, live_names
from signedpacts.notation import parse_pact
from signedpacts.playgrammars import derivation_of, moves_of, play_grammar
from signedpacts.runs import runs
from tests.plain_pacts import plays_of, rich_play, some_pact

PARTIES, MARKS = "ab", "DE"


def row_of(play, parties=PARTIES, marks=MARKS):
    return balance_row(play.happened(), parties=parties, marks=marks)


def played(pact, moves):
    """The play with these moves; at rounds with a limit above 0, the limit must be named."""
    play = rich_play(pact)
    for move in moves:
        _, limit = play.row()[0]
        if limit is not None and move != ("rounds", limit):
            raise AssertionError((pact.text, moves))
        play.move(move)
    return play


class GrammarTest(unittest.TestCase):
    def raises(self, error, fields, call, *arguments, **more):
        with self.assertRaises(error) as caught:
            call(*arguments, **more)
        self.assertEqual(vars(caught.exception), fields)


class Grammars(GrammarTest):
    def test_the_sums_are_the_balance_rows(self):
        for text in (".", "D", "ab1, D", "a(D | ab1 | .)", "a[D]", "2(a(D | E))", "[D]", "a(D | [E])", "a[b(D | E)], ab2",
                     "a[a[D], E]", "0([D])", "2([D])", "a[.]", "a[[D]]"):
            pact = parse_pact(text)
            grammar = play_grammar(pact, parties=PARTIES, marks=MARKS)
            wanted = {row_of(played(pact, moves)) for moves, _, done in plays_of(pact, 3) if done}
            self.assertLessEqual(wanted, self.sums(grammar, 8), text)
            # All sums of small derivations come from done plays.
            many = {row_of(played(pact, moves)) for moves, _, done in plays_of(pact, 5) if done}
            self.assertLessEqual(self.sums(grammar, 3), many, text)

    def sums(self, grammar, height):
        """The sums of derivations of "pact" with at most this height above the rules without uses."""
        found = {name: set() for name in grammar.names}
        for _ in range(height + 1):
            found = {name: {row for number in grammar.rules_of(name) for row in self.rule_sums(grammar, number, found)}
                     for name in grammar.names}
        return found["pact"]

    def rule_sums(self, grammar, number, found):
        _, row, uses = grammar.rules[number]
        for rows in itertools.product(*(found[name] for name in uses)):
            yield tuple(map(sum, zip(row, *rows)))

    def test_the_least_set(self):
        chance = random.Random(41)
        for _ in range(500):
            pact = some_pact(chance, chance.randint(1, 40))
            grammar = play_grammar(pact, parties="abc", marks=MARKS)
            self.assertEqual(least_set(grammar, "pact"), balances(pact, parties="abc", marks=MARKS))

    def test_equal_pacts_have_the_same_rules(self):
        pact = parse_pact("a[b(D | E, a[ab1])], 2(b(D | E, a[ab1]))")
        one, other = play_grammar(pact, parties="ab", marks="D"), play_grammar(parse_pact(pact.text), parties="", marks="")
        self.assertEqual(one.names, other.names)
        self.assertEqual([(name, uses) for name, _, uses in one.rules], [(name, uses) for name, _, uses in other.rules])
        self.assertEqual((one.width, other.width), (3, 0))

    def test_sizes(self):
        began = time.monotonic()
        for text in ("99(100(.))", ", ".join(f"a(D | b[E, ab{at}])" for at in range(25)), "99(D)", "24(a(D | b(E | F)))"):
            pact = parse_pact(text)
            grammar = play_grammar(pact, parties="abcdef", marks="DEFGHIJKLM")
            self.assertLessEqual(len(grammar.names), 800)
            self.assertLessEqual(len(grammar.rules), 1600)
            self.assertLessEqual(max(len(uses) for _, _, uses in grammar.rules), 100)
            self.assertEqual(live_names(grammar), grammar.names)
        self.assertLess(time.monotonic() - began, 20)

    def test_errors(self):
        pact = parse_pact("D")
        derivation = base_derivation(play_grammar(pact, parties="", marks=""), "pact")
        self.assertEqual(moves_of(pact, derivation), ())
        for call in (lambda **more: play_grammar(pact, **more), lambda **more: derivation_of(pact, (), **more)):
            self.raises(BadParty, {"party": "g"}, call, parties="abg1", marks="x")
            self.raises(BadMark, {"mark": "a"}, call, parties="ab", marks="Da1")


class Derivations(GrammarTest):
    def test_moves(self):
        pact = parse_pact("b(. | D), a[b(E | ab1)], 2(b(. | D))")
        moves = (("take", 1), ("rounds", 2), ("take", 0), ("rounds", 1), ("take", 1), ("take", 0), ("take", 1))
        derivation = derivation_of(pact, moves, parties=PARTIES, marks=MARKS)
        self.assertEqual((derivation.root, derivation.total), ("pact", (-1, 1, 2, 1)))
        self.assertEqual(moves_of(pact, derivation), moves)
        self.assertEqual(derivation.grammar.rules, play_grammar(pact, parties=PARTIES, marks=MARKS).rules)

    def test_lists_are_taken_as_well(self):
        pact = parse_pact("a[b(E | ab1)]")
        derivation = derivation_of(pact, [["rounds", 1], ["take", 1]], parties=["a", "b"], marks=[])
        self.assertEqual((derivation.total, moves_of(pact, derivation)), ((-1, 1), (("rounds", 1), ("take", 1))))

    def test_rounds_that_end_early(self):
        pact = parse_pact("a[D, a[E]]")
        early = (("rounds", 9), ("rounds", 5), ("rounds", 0), ("rounds", 7), ("rounds", 0), ("rounds", 0))
        play = rich_play(pact)
        for move in early:
            play.move(move)
        self.assertEqual(play.outcome, "done")
        derivation = derivation_of(pact, early, parties=PARTIES, marks=MARKS)
        self.assertEqual(derivation.total, row_of(play))
        moves = moves_of(pact, derivation)
        self.assertEqual(moves, (("rounds", 2), ("rounds", 1), ("rounds", 1), ("rounds", 0)))
        self.assertEqual(row_of(played(pact, moves)), row_of(play))

    def test_random_plays(self):
        chance = random.Random(42)
        checked = 0
        for _ in range(800):
            pact = some_pact(chance, chance.randint(1, 16))
            parties, marks = chance.choice([("abc", "DE"), ("", ""), ("b", "E"), ("fedcba", "")])
            for moves, told, done in itertools.islice(runs(pact, most=2), 40):
                if done:
                    derivation = derivation_of(pact, moves, parties=parties, marks=marks)
                    self.assertEqual(derivation.total, balance_row(told, parties=parties, marks=marks))
                    self.assertEqual((derivation.root, moves_of(pact, derivation)), ("pact", moves))
                    checked += 1
        self.assertGreater(checked, 1500)

    def test_random_derivations(self):
        chance = random.Random(43)
        checked = 0
        for _ in range(800):
            pact = some_pact(chance, chance.randint(1, 30))
            grammar = play_grammar(pact, parties="abc", marks=MARKS)
            derivations = list(telling(grammar, "pact"))
            if derivations:
                derivations.append(self.some_derivation(chance, grammar))
            for derivation in derivations:
                if derivation is None or derivation.size > 1000:
                    continue
                moves = moves_of(parse_pact(pact.text), derivation)
                play = played(pact, moves)
                self.assertEqual((play.outcome, row_of(play, "abc")), ("done", derivation.total))
                again = derivation_of(pact, moves, parties="abc", marks=MARKS)
                self.assertEqual((again.total, moves_of(pact, again)), (derivation.total, moves))
                self.assertLessEqual(len(again.steps), 2400)
                checked += 1
        self.assertGreater(checked, 1000)

    def some_derivation(self, chance, grammar):
        """A derivation by rules that are chosen at random, whose steps are used several times; None if it grows."""
        live = live_names(grammar)
        steps, of_name = [], {}
        for name in live:
            for number, uses in base_derivation(grammar, name).steps:
                derived = grammar.rules[number][0]
                steps.append((number, tuple(of_name[used][0] for used in grammar.rules[number][2])))
                of_name.setdefault(derived, []).append(len(steps) - 1)
        for _ in range(30):
            number = chance.randrange(len(grammar.rules))
            name, _, uses = grammar.rules[number]
            if name != "pact" and all(used in of_name for used in uses):
                steps.append((number, tuple(chance.choice(of_name[used]) for used in uses)))
                of_name.setdefault(name, []).append(len(steps) - 1)
        steps.append((0, tuple(chance.choice(of_name[used]) for used in grammar.rules[0][2])))
        return Derivation(grammar, steps)

    def test_great_sizes(self):
        began = time.monotonic()
        pact = parse_pact("a[D, b(ab1 | .)]")
        moves = []
        for left in range(150, 0, -1):
            moves += [("rounds", left), ("take", left & 1)]
        derivation = derivation_of(pact, moves, parties=PARTIES, marks=MARKS)
        self.assertEqual((derivation.total, moves_of(pact, derivation)), ((-75, 75, 150, 0), tuple(moves)))
        pact = parse_pact("99(a[.])")
        moves = (("rounds", 3), ("rounds", 2), ("rounds", 1)) * 99
        derivation = derivation_of(pact, moves, parties="", marks="")
        self.assertEqual(moves_of(pact, derivation), moves)
        self.assertLess(time.monotonic() - began, 20)


if __name__ == "__main__":
    unittest.main()
