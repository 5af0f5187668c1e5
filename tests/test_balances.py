import itertools
import random
import unittest

from signedpacts.balances import balance_row, balances
from signedpacts.countsets import CountSet
from signedpacts.errors import BadMark, BadParty
from signedpacts.notation import parse_pact
from signedpacts.runs import runs
from tests.plain_pacts import plays_of, some_pact

PARTIES, MARKS = "bca", "ED"


def set_of(text, parties="ab", marks="D"):
    counts = balances(parse_pact(text), parties=parties, marks=marks)
    return counts.start, counts.steps


class BalanceTest(unittest.TestCase):
    def raises(self, error, fields, call, *arguments, **more):
        with self.assertRaises(error) as caught:
            call(*arguments, **more)
        self.assertEqual(vars(caught.exception), fields)


class Rows(BalanceTest):
    def test_rows(self):
        told = ("ab5", "D", "ca2", "E", "D", "bd1")
        self.assertEqual(balance_row(told, parties="abc", marks="DEF"), (-3, 4, -2, 2, 1, 0))
        self.assertEqual(balance_row(told, parties="cba", marks="ED"), (-2, 4, -3, 1, 2))
        self.assertEqual(balance_row(list(told), parties="d", marks=""), (1,))
        self.assertEqual(balance_row(told, parties="", marks=""), ())
        self.assertEqual(balance_row((), parties="abcdef", marks="ABCDEFGHIJ"), (0,) * 16)
        self.assertEqual(balance_row(("ab0", "fe" + str(10 ** 60)), parties="ef", marks="Z"), (10 ** 60, -10 ** 60, 0))

    def test_errors(self):
        pact = parse_pact("D")
        for call in (lambda **more: balance_row((), **more), lambda **more: balances(pact, **more)):
            self.raises(BadParty, {"party": "g"}, call, parties="abg1", marks="x")
            self.raises(BadParty, {"party": "A"}, call, parties="Ab", marks="D")
            self.raises(BadMark, {"mark": "a"}, call, parties="ab", marks="Da1")
            self.raises(BadMark, {"mark": " "}, call, parties="", marks=" ")


class Sets(BalanceTest):
    def test_each_kind_of_part(self):
        self.assertEqual(set_of("."), ((0, 0, 0), ()))
        self.assertEqual(set_of("ab5"), ((-5, 5, 0), ()))
        self.assertEqual(set_of("D, ca3, E"), ((3, 0, 1), ()))
        self.assertEqual(set_of("a(ab5 | ab5, D)"), ((-5, 5, 0), ((0, 0, 1),)))
        self.assertEqual(set_of("a[ab5]"), ((0, 0, 0), ((5, -5, 0),)))
        self.assertEqual(set_of("3(D, ba2)"), ((6, -6, 3), ()))
        self.assertEqual(set_of("2(a(ab5 | .))"), ((0, 0, 0), ((5, -5, 0),)))
        self.assertEqual(set_of("0(ab5)"), ((0, 0, 0), ()))
        self.assertEqual(set_of("[ab5]"), (None, ()))
        self.assertEqual(set_of("a(D | [ab5]), ab1"), ((-1, 1, 1), ()))
        self.assertEqual(set_of("a[[.]]"), ((0, 0, 0), ()))
        # No round of an endless body is made, so nothing comes of it.
        self.assertEqual(set_of("0([D])"), ((0, 0, 0), ()))
        self.assertEqual(set_of("D, 2([D])"), (None, ()))
        self.assertEqual(balances(parse_pact("ab5"), parties="", marks="").start, ())

    def test_random_pacts(self):
        chance = random.Random(31)
        equal = empty = 0
        for _ in range(1200):
            pact = some_pact(chance, chance.randint(1, 16))
            counts = balances(pact, parties=PARTIES, marks=MARKS)
            if len(list(itertools.islice(runs(pact, most=2), 300))) == 300:
                continue
            around = CountSet(5)
            for _, told, done in plays_of(pact, 2):
                if done:
                    row = balance_row(told, parties=PARTIES, marks=MARKS)
                    self.assertIn(row, counts)
                    around = around | CountSet(5, start=row)
            # The plays with at most two rounds nearly always tell the whole set.
            self.assertTrue(around.within(counts))
            equal += around == counts
            empty += counts.start is None
        self.assertGreater(equal, 900)
        self.assertGreater(empty, 30)

    def test_a_claim_that_holds_in_every_done_play(self):
        counts = balances(parse_pact("a[b(ab5, D | ab10, 2(D))], c[E, ca3]"), parties="abc", marks="DE")
        for claim in (((0, 1, 0, -5, 0), 0, 0), ((1, 1, 1, 0, 0), 0, 0), ((0, 0, 1, 0, 3), 0, 0), ((1, 0, 0, 5, -3), 0, 0)):
            self.assertTrue(counts.holds(claim))
        self.assertFalse(counts.holds(((0, 0, 0, 1, 0), 0, 2)))

    def test_large_pacts(self):
        parts = [f"{payer}[{payer}{payee}{10 ** 59 + at}, {mark}, {payee}(D | .)]"
                 for at, (payer, payee, mark) in enumerate(zip("abcdef" * 13, "bcdefa" * 13, "ABCDEFGHIJ" * 8))]
        counts = balances(parse_pact(", ".join(parts)), parties="abcdef", marks="ABCDEFGHIJ")
        self.assertTrue(counts.holds(((1,) * 6 + (0,) * 10, 0, 0)))


if __name__ == "__main__":
    unittest.main()
