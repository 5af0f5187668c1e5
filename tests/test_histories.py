import random
import time
import unittest

from signedpacts.duties import answered, never
from signedpacts.errors import BadLetters, BadMark
from signedpacts.histories import first_history, histories, moves_for
from signedpacts.machines import Machine
from signedpacts.notation import parse_pact
from signedpacts.runs import history_of
from tests.plain_duties import by_parts, histories_of, kept_marks, some_machine
from tests.plain_pacts import rich_play, some_pact


def first_of(text, letters, many=4):
    """The first histories of a pact."""
    told = histories(parse_pact(text), letters=letters)
    return [one for length in range(many) for one in told.texts(length)]


class HistoryTest(unittest.TestCase):
    def raises(self, error, fields, call, *arguments, **more):
        with self.assertRaises(error) as caught:
            call(*arguments, **more)
        self.assertEqual(vars(caught.exception), fields)


class Histories(HistoryTest):
    def test_each_kind_of_part(self):
        self.assertEqual(first_of(".", "D"), [""])
        self.assertEqual(first_of("ab1, D, E, F", "FD"), ["DF"])
        self.assertEqual(first_of("a(D | E | .)", "ED"), ["", "E", "D"])
        self.assertEqual(first_of("a[D]", "D"), ["", "D", "DD", "DDD"])
        self.assertEqual(first_of("b[b(D | E, F)]", "DEF", 3), ["", "D", "DD", "EF"])
        self.assertEqual(first_of("2(D, a(E | .))", "DE", 5), ["DD", "DDE", "DED", "DEDE"])
        self.assertEqual(first_of("0(D)", "D"), [""])
        self.assertEqual(first_of("[D]", "D"), [])
        self.assertEqual(first_of("D, [.], D", "D"), [])
        self.assertEqual(first_of("a(D | [E]), a[[D]]", "DE"), ["D"])
        self.assertEqual(first_of("a[b[D], E]", "DE", 3), ["", "E", "DE", "EE"])

    def test_marks_that_are_no_letters_are_left_out(self):
        self.assertEqual(histories(parse_pact("a[D, b(E | F)]"), letters="E"), Machine("E", [[0]]))
        self.assertEqual(histories(parse_pact("D, E"), letters="Z"), Machine("Z", [[None]]))
        self.assertEqual(histories(parse_pact("E, D"), letters="ZDYEXW").letters, "ZDYEXW")

    def test_random_pacts(self):
        chance = random.Random(51)
        for _ in range(1200):
            pact = some_pact(chance, chance.randint(1, 24), "ab", "DEF")
            letters = chance.choice(["D", "DE", "FDE", "FE", "Z", "DEFABC"])
            told = histories(pact, letters=letters)
            self.assertEqual(told, by_parts(pact, letters), pact.text)
            for text in histories_of(pact, letters, 2, 60):
                self.assertIn(text, told)

    def test_nested_rounds(self):
        began = time.monotonic()
        for text in ("a[" * 23 + "D" + "]" * 23, "a[a(A | B)], A, 6(a(A | B))", "a[a(A, A | B, B, B)], a[a[A], a[B]], A, a[B], B",
                     "23(100(.))", "a(a[2(A)] | a[3(A)] | a[5(A)] | a[4(A)])", "2(a[b(A | B, a[A], a(B | A, B))])"):
            pact = parse_pact(text)
            self.assertEqual(histories(pact, letters="ABCDEF"), by_parts(pact, "ABCDEF"))
        self.assertLess(time.monotonic() - began, 20)

    def test_errors(self):
        pact = parse_pact("D")
        for letters, letter in (("Da", "a"), ("1D", "1"), (" ", " "), ("DEx", "x")):
            self.raises(BadMark, {"mark": letter}, histories, pact, letters=letters)
            self.raises(BadMark, {"mark": letter}, moves_for, pact, "D", letters=letters)
            self.raises(BadMark, {"mark": letter}, first_history, pact, Machine(letters, []))
        for letters in ("", "DD"):
            self.raises(BadLetters, {"letters": letters}, histories, pact, letters=letters)


class FirstHistories(HistoryTest):
    def test_the_example_of_the_document(self):
        pact = parse_pact("a[D, b(P | .)]")
        self.assertEqual(first_history(pact, ~answered("DP", "D", "P")), "D")
        self.assertEqual(moves_for(pact, "D", letters="DP"), (("rounds", 1), ("take", 1)))

    def test_first_ones(self):
        pact = parse_pact("a[b(D | E, E)]")
        self.assertEqual(first_history(pact, Machine("DE", [[0, 0]])), "")
        self.assertEqual(first_history(pact, ~Machine("ED", [[None, None]])), "D")
        self.assertEqual(first_history(pact, ~never("ED", "E")), "EE")
        self.assertEqual(first_history(pact, ~Machine("DE", [[1, 1], [2, 2], [None, None]], [0, 1, 2])), "DDD")
        # The order is that of the machine's letters.
        self.assertEqual(first_history(pact, ~Machine("ED", [[1, 1], [2, 2], [None, None]], [0, 1, 2])), "EED")
        self.assertIsNone(first_history(pact, Machine("DE", [])))
        self.assertIsNone(first_history(pact, Machine("DE", [[None, 1], [None, None]], [1])))
        self.assertIsNone(first_history(parse_pact("[D]"), Machine("D", [[0]])))
        self.assertEqual(first_history(pact, never("D", "D") - never("D", "D") | never("D", "D")), "")

    def test_random_duties(self):
        chance = random.Random(52)
        for _ in range(600):
            pact = some_pact(chance, chance.randint(1, 20), "ab", "DE")
            duty = some_machine(chance, chance.choice(["DE", "ED", "D"]))
            found = first_history(pact, duty)
            told = [text for text in histories_of(pact, duty.letters, 2) if text in duty]
            told = sorted(told, key=lambda text: (len(text), [duty.letters.index(mark) for mark in text]))
            if found is None:
                self.assertEqual(told, [])
            elif told:
                self.assertLessEqual(len(found), len(told[0]))
                if len(found) == len(told[0]) and found in told:
                    self.assertEqual(found, told[0])


class Moves(HistoryTest):
    def check(self, pact, history, letters):
        moves = moves_for(pact, history, letters=letters)
        if history not in by_parts(pact, letters):
            self.assertIsNone(moves)
            return 0
        play = rich_play(pact)
        for move in moves:
            _, limit = play.row()[0]
            self.assertIn(limit, (None, move[1]))
            play.move(move)
        self.assertEqual((play.outcome, kept_marks(history_of(play.happened()), letters)), ("done", history))
        self.assertEqual(type(moves), tuple)
        return 1

    def test_moves(self):
        self.assertEqual(moves_for(parse_pact("."), "", letters="D"), ())
        self.assertIsNone(moves_for(parse_pact("."), "D", letters="D"))
        self.assertEqual(moves_for(parse_pact("a[D]"), "DDD", letters="D"), (("rounds", 3), ("rounds", 2), ("rounds", 1)))
        self.assertEqual(moves_for(parse_pact("a[D]"), "", letters="D"), (("rounds", 0),))
        self.assertIsNone(moves_for(parse_pact("[D]"), "", letters="D"))
        self.assertIsNone(moves_for(parse_pact("D, E"), "E", letters="DE"))
        self.assertEqual(moves_for(parse_pact("D, E"), "E", letters="E"), ())

    def test_characters_that_are_no_letters(self):
        for history in ("E", "DE", "d", "1", " ", "D "):
            self.assertIsNone(moves_for(parse_pact("a[D], a[E]"), history, letters="D"))

    def test_random_histories(self):
        chance = random.Random(53)
        found = 0
        for _ in range(800):
            pact = some_pact(chance, chance.randint(1, 24), "ab", "DE")
            letters = chance.choice(["DE", "D", "EDF"])
            told = histories(pact, letters=letters)
            texts = [text for length in range(4) for text in told.texts(length)][:8]
            texts += ["".join(chance.choice(letters) for _ in range(chance.randint(0, 5))) for _ in range(3)]
            found += sum(self.check(pact, text, letters) for text in texts)
        self.assertGreater(found, 500)

    def test_long_histories_and_deep_pacts(self):
        began = time.monotonic()
        for text in ("a[" * 23 + "D" + "]" * 23, "a[b[c[D, a(E | .)], a[E]], b[D]]", "a[a[a[b(D | E)]]]", "20(a(D | .))",
                     "23(100(.)), a[D]"):
            self.assertEqual(self.check(parse_pact(text), "D" * 20, "DE"), 1)
        self.assertEqual(self.check(parse_pact("a[b[c[D, a(E | .)], a[E]], b[D]]"), "DEEDDEDEEEDDDEDEDEED", "DE"), 1)
        self.assertLess(time.monotonic() - began, 20)


if __name__ == "__main__":
    unittest.main()
