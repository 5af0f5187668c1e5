import random
import time
import unittest

from signedpacts.dayrules import DayRule, next_good, shift
from signedpacts.errors import BadMark, BadWait
from signedpacts.histories import histories
from signedpacts.lapses import first_lapse
from signedpacts.notation import parse_pact
from tests.plain_days import some_rule, some_wait
from tests.plain_duties import NO_MARKS, RICH_PACTS
from tests.plain_pacts import some_pact

WORK = shift(1) >> next_good(7, [0, 1, 2, 3, 4])


def lapses(text, start, waits, mark, answer, rule):
    """True if the last event of the text lapses in the timed play that begins on this day."""
    day, asked, late = start, None, False
    for event in text:
        late = event == answer and asked is not None and day > rule(asked)
        asked = day if event == mark else asked
        day = waits[event](day) if event in waits else day
    return late


class Lapses(unittest.TestCase):
    def raises(self, error, fields, call, *arguments):
        with self.assertRaises(error) as caught:
            call(*arguments)
        self.assertEqual(vars(caught.exception), fields)

    def first(self, text, waits, mark, answer, rule):
        return first_lapse(parse_pact(text), waits, mark, answer, rule)

    def test_small_cases(self):
        self.assertEqual(self.first("D, P", {"D": shift(3)}, "D", "P", shift(2)), ("DP", 0))
        self.assertIsNone(self.first("D, P", {"D": shift(3)}, "D", "P", shift(3)))
        self.assertIsNone(self.first("D, P", {}, "D", "P", shift(0)))
        self.assertEqual(self.first("D, P", {}, "D", "P", shift(-1)), ("DP", 0))
        self.assertIsNone(self.first("P, D", {"P": shift(3)}, "D", "P", shift(-5)))
        # The last mark before the answer counts.
        self.assertEqual(self.first("D, E, D, P", {"E": shift(9)}, "D", "P", shift(1)), None)
        self.assertEqual(self.first("D, E, P, D, P", {"E": shift(9)}, "D", "P", shift(1)), ("DEP", 0))
        self.assertEqual(self.first("D, a[E], P", {"E": shift(2)}, "D", "P", shift(5)), ("DEEEP", 0))
        # Of several texts the shortest comes first, then the order A to Z.
        self.assertEqual(self.first("D, a(F | E | E, E), P, Z", {"E": shift(1), "F": shift(1)}, "D", "P", shift(0)), ("DEP", 0))
        self.assertEqual(self.first("D, a(E | E, E), P", {"E": shift(1)}, "D", "P", shift(1)), ("DEEP", 0))

    def test_the_least_start(self):
        # From a Friday on the fourth day, three work days end behind the weekend.
        self.assertEqual(self.first("D, P", {"D": WORK * 3}, "D", "P", shift(3)), ("DP", 2))
        self.assertEqual(self.first("E, D, P", {"D": WORK, "E": shift(1)}, "D", "P", shift(2)), ("EDP", 3))
        self.assertEqual(self.first("D, P", {"D": WORK}, "D", "P", shift(2)), ("DP", 4))

    def test_a_mark_that_is_its_own_answer(self):
        self.assertEqual(self.first("a[D]", {"D": shift(2)}, "D", "D", shift(1)), ("DD", 0))
        self.assertIsNone(self.first("a[D]", {"D": shift(2)}, "D", "D", shift(2)))
        self.assertIsNone(self.first("D", {"D": shift(2)}, "D", "D", shift(-9)))
        self.assertEqual(self.first("D, a[E], D, D", {"E": shift(1)}, "D", "D", shift(2)), ("DEEED", 0))

    def test_beginnings_of_done_plays_alone(self):
        self.assertIsNone(self.first("D, P, [.]", {"D": shift(3)}, "D", "P", shift(2)))
        self.assertIsNone(self.first("a(D, P, [E] | E)", {"D": shift(3)}, "D", "P", shift(2)))
        self.assertEqual(self.first("D, P, E, a[D, P]", {"D": shift(3)}, "D", "P", shift(2)), ("DP", 0))

    def test_pacts_without_the_marks(self):
        for text in (".", "ab1", "[.]", "E", "D", "P"):
            self.assertIsNone(self.first(text, {"D": shift(3)}, "D", "P", shift(2)))
        self.assertIsNone(self.first("E, F", {}, "Z", "Z", shift(-5)))

    def test_random_pacts(self):
        chance = random.Random(101)
        found, starts = {}, {}
        for _ in range(1500):
            pact = parse_pact(chance.choice(RICH_PACTS)) if chance.random() < 0.5 else some_pact(chance, 20, "ab", "DEF")
            waits = {mark: some_wait(chance, (1, 2, 3, 4)) for mark in "DEFZ" if chance.random() < 0.6}
            mark, answer, rule = chance.choice("DE"), chance.choice("DEF"), some_rule(chance, (1, 2, 3, 4), -3, 6)
            told = first_lapse(pact, waits, mark, answer, rule)
            plain = self.plain(pact, waits, mark, answer, rule)
            if plain is not None or (told is not None and len(told[0]) < 6):
                self.assertEqual(told, plain, (pact.text, mark, answer))
            found[told and len(told[0])] = found.get(told and len(told[0]), 0) + 1
            starts[told and told[1]] = starts.get(told and told[1], 0) + 1
        self.assertTrue(all(found.get(many, 0) > 20 for many in (None, 2, 3)), found)
        self.assertTrue(all(starts.get(start, 0) > 5 for start in (0, 1, 2)), starts)

    def plain(self, pact, waits, mark, answer, rule):
        """The answer, if its text has at most five events."""
        told = histories(pact, letters="DEF").beginnings()
        for many in range(1, 6):
            for text in told.texts(many):
                for start in range(12):
                    if lapses(text, start, waits, mark, answer, rule):
                        return text, start
        return None

    def test_long_texts(self):
        began = time.monotonic()
        pact = parse_pact("D, a[" + ", ".join("EFGH"[at % 4] for at in range(19)) + "], Z")
        text, start = first_lapse(pact, {"E": DayRule([0] + list(range(1, 59)) + [60])}, "D", "Z", shift(0))
        self.assertTrue(lapses(text, start, {"E": DayRule([0] + list(range(1, 59)) + [60])}, "D", "Z", shift(0)))
        self.assertEqual((text, start), ("D" + ("EFGH" * 5)[:19] + "Z", 59))
        slow = DayRule([day + 1 if day % 2 == 0 else day for day in range(60)])
        self.assertIsNone(first_lapse(pact, {"E": slow}, "D", "Z", shift(1)))
        text, start = first_lapse(pact, {"G": shift(1)}, "D", "Z", shift(60))
        self.assertEqual((len(text), start), (2 + 19 * 13, 0))
        many = parse_pact("a[b(A | B | C | D | E | F, A, b(A | B), b(A | B), A)], A")
        told = first_lapse(many, {"A": WORK, "B": next_good(60, [3])}, "F", "E", shift(50))
        self.assertIsNotNone(told)
        self.assertLess(time.monotonic() - began, 30)

    def test_errors_in_their_order(self):
        pact, back = parse_pact("D"), DayRule([0, 0])
        fine = DayRule([0, 2])
        self.raises(BadWait, {"mark": "B"}, first_lapse, pact, {"Z": shift(-1), "C": back, "B": shift(-1), "A": fine}, "x", "y", fine)
        self.raises(BadWait, {"mark": "Q"}, first_lapse, pact, {"Q": DayRule([0, 1, 1])}, "D", "D", fine)
        for mark in NO_MARKS:
            self.raises(BadMark, {"mark": mark}, first_lapse, pact, {"D": fine}, mark, "x", fine)
            self.raises(BadMark, {"mark": mark}, first_lapse, pact, {"D": fine}, "D", mark, fine)
        waits = {"Z": shift(1), "D": fine}
        first_lapse(pact, waits, "D", "Z", shift(-60))
        self.assertEqual(list(waits), ["Z", "D"])


if __name__ == "__main__":
    unittest.main()
