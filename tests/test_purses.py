import random
import time
import unittest

from signedpacts.errors import BadAmount, BadParty, PlayOver
from signedpacts.needs import Need
from signedpacts.notation import parse_pact
from signedpacts.plays import Play
from signedpacts.purses import least_purse, need_of, pact_for
from signedpacts.runs import run_need
from tests.plain_needs import fields, some_need
from tests.plain_pacts import greatest_of, least_of, moves_here, pact_purse, part_purse, plays_of, rich_play, some_pact, values

BIG = 10 ** 50
NO_PARTIES = ("", "g", "A", "ab", "world", " ")


def need(text, party="a"):
    return fields(need_of(parse_pact(text), party))


class PurseTest(unittest.TestCase):
    def raises(self, error, fields, call, *arguments, **more):
        with self.assertRaises(error) as caught:
            call(*arguments, **more)
        self.assertEqual(vars(caught.exception), fields)


class Needs(PurseTest):
    def test_the_example_of_the_document(self):
        f = need_of(parse_pact("a(ba5, ab2 | [ab4, ba4])"), "a")
        self.assertEqual((f.start, f.rises, f.never, f(5), f.surely(2)), (0, ((3, 7),), 4, 2, 5))

    def test_each_kind_of_part(self):
        same = (0, ((0, None),), None)
        for text in (".", "D", "cb5", "0(ab5)", "1(.)", "a[.]", "b[.]", "a(. | .)", "ab0", "ba0"):
            self.assertEqual(need(text), same)
        self.assertEqual(need("ab5"), (5, ((0, None),), None))
        self.assertEqual(need("ba5"), (0, ((5, None),), None))
        self.assertEqual(need("ab5, ba3"), (5, ((3, None),), None))
        self.assertEqual(need("ba3, ab5"), (2, ((0, None),), None))
        self.assertEqual(need("a(ab1 | ab7, D)"), (1, ((0, None),), None))
        self.assertEqual(need("b(ab1 | ab7, D)"), (7, ((0, None),), None))
        self.assertEqual(need("100(ab3)"), (300, ((0, None),), None))
        self.assertEqual(need("a[ab1, ba3]"), (0, ((0, 1),), None))
        self.assertEqual(need("b[ab1, ba3]"), (1, ((1, None),), None))
        self.assertEqual(need("b[ab1]"), (None, (), None))
        self.assertEqual(need("a[ab1]"), same)
        self.assertEqual(need("[.]"), (0, (), 0))
        self.assertEqual(need("[ab3, ba3]"), (3, (), 3))
        self.assertEqual(need("[ab1]"), (None, (), None))
        self.assertEqual(need("[ba1]"), (0, (), 0))
        # Each party has a need of its own; others are not hurt by what they do not pay.
        self.assertEqual(need("ab5", "b"), (0, ((5, None),), None))
        self.assertEqual(need("b[ab1]", "b"), (0, (), None))
        self.assertEqual(need("b[ab1]", "f"), same)

    def test_parts_stand_in_front_of_each_other(self):
        self.assertEqual(need("[.], ab5"), (0, (), 0))
        self.assertEqual(need("ab5, [.]"), (5, (), 5))
        self.assertEqual(need("ab5, [ab1, ba1], ab9"), (6, (), 6))

    def test_random_pacts(self):
        chance = random.Random(11)
        nones = 0
        for _ in range(1500):
            pact = some_pact(chance, chance.randint(1, 25))
            for party in "abd":
                f = need_of(pact, party)
                nones += f.start is None
                for k in (None, 0, 1, 2, 4, 9, 30):
                    self.assertEqual(f(k), pact_purse(pact, party, k), (pact.text, party, k))
        self.assertGreater(nones, 50)

    def test_a_party_alone_needs_what_its_runs_need(self):
        # With no one else to move, the best play is the one that needs least.
        chance = random.Random(12)
        for _ in range(300):
            pact = some_pact(chance, 9, "ab", endless=False)
            if "b(" in pact.text or "b[" in pact.text or "a[" in pact.text:
                continue
            wanted = min(run_need(told, "a", needed=2) for _, told, _ in plays_of(pact))
            self.assertEqual(need_of(pact, "a")(2), wanted)

    def test_wrong_parties(self):
        for party in NO_PARTIES:
            self.raises(BadParty, {"party": party}, need_of, parse_pact("D"), party)

    def test_large_pacts(self):
        began = time.monotonic()
        amount = 10 ** 60
        self.assertEqual(need(f"3(100(ab{amount - 10 ** 59}))"), (
            300 * (amount - 10 ** 59), ((0, None),), None))
        self.assertEqual(need(f"b[ba1, a[ba{amount}]], ab3")[1], ((0, None),))
        many = ", ".join(f"b(a(. | [ab{i * BIG}, ba{i * BIG}]) | ba{7 * i + 1})" for i in range(1, 57))
        f = need_of(parse_pact(many), "a")
        self.assertEqual(len(f.rises), 57)
        self.assertEqual(f(10 ** 55), pact_purse(parse_pact(many), "a", 10 ** 55))
        self.assertLess(time.monotonic() - began, 20)


class LeastPurses(PurseTest):
    def test_rows(self):
        play = rich_play(parse_pact("a(ab1 | .), ab7"))
        self.assertEqual([least_purse(play, "a", needed=needed) for needed in (0, 3, None)], [7, 10, None])
        self.assertEqual(least_purse(play, "a"), 7)
        self.assertEqual(least_purse(play, "b"), 0)
        self.assertEqual(least_purse(play, "f", needed=4), 4)

    def test_the_party_needs_no_purse(self):
        play = Play(parse_pact("a[ab1], b[.]"), {"a": 0, "b": 0})
        self.assertEqual([least_purse(play, party, needed=3) for party in "abf"], [3, 3, 3])

    def test_rounds_with_limits(self):
        play = rich_play(parse_pact("a[ba2, ab1, c[.]], ab5"))
        play.move(("rounds", 3))
        # The inner rounds have no limit, the outer ones the limit 2.
        self.assertEqual([limit for _, limit in play.row()], [None, 2, None])
        self.assertEqual([least_purse(play, "a", needed=needed) for needed in (0, 5)], [3, 8])
        play.move(("rounds", 0))
        play.move(("rounds", 1))
        self.assertEqual(least_purse(play, "a"), 5)
        other = rich_play(parse_pact("b[ba1, ab3, c[.]], ab5"))
        other.move(("rounds", 4))
        self.assertEqual([least_purse(other, "a", needed=needed) for needed in (0, 2, None)], [11, 13, None])
        huge = rich_play(parse_pact("b[ab3, ba2, c[.]]"))
        huge.move(("rounds", 10 ** 100 + 1))
        self.assertEqual(least_purse(huge, "a"), 10 ** 100 + 2)

    def test_endless_rounds_with_limits(self):
        play = rich_play(parse_pact("[ab2, a[.]], ab9"))
        self.assertIsNone(least_purse(play, "a"))
        play.move(("rounds", 3))
        self.assertEqual([least_purse(play, "a", needed=needed) for needed in (0, 5, None)], [4, 4, 4])
        play.move(("rounds", 0))
        play.move(("rounds", 1))
        self.assertEqual(play.row()[1][1], 0)
        self.assertEqual(least_purse(play, "a", needed=None), 0)

    def test_random_rows(self):
        chance = random.Random(13)
        limits = 0
        for _ in range(2000):
            play = rich_play(some_pact(chance, chance.randint(4, 25)))
            for _ in range(chance.randint(0, 4)):
                if play.turn != "over":
                    play.move(chance.choice(moves_here(play, 4)))
            if play.turn == "over":
                continue
            for party in "ad":
                for needed in (0, 1, 5, None):
                    self.assertEqual(least_purse(play, party, needed=needed), self.row_purse(play.row(), party, needed))
            limits += any(limit for _, limit in play.row())
        self.assertGreater(limits, 100)

    def row_purse(self, row, party, k):
        for part, limit in row[::-1]:
            if limit is None:
                k = part_purse(part, party, k)
                continue
            found = values(lambda one: pact_purse(part.body, party, one), 0 if part.KIND == "endless" else k, limit + 1)
            mine = part.KIND == "rounds" and part.owner == party
            k = least_of(found) if mine else greatest_of(found)
        return k

    def test_the_purses_have_no_influence(self):
        pact = parse_pact("a[ab1, ba3], b(ab2 | .)")
        told = [least_purse(Play(pact, {"a": a, "b": b}), "a", needed=9) for a in (0, 5, 10 ** 200) for b in (0, 10 ** 200)]
        self.assertEqual(len(set(told)), 1)

    def test_errors_in_their_order(self):
        over, play = Play(parse_pact("."), {}), rich_play(parse_pact("a[.]"))
        self.raises(PlayOver, {}, least_purse, over, "x", needed=-1)
        for party in NO_PARTIES:
            self.raises(BadParty, {"party": party}, least_purse, play, party, needed=-1)
        self.raises(BadAmount, {"value": -1}, least_purse, play, "a", needed=-1)
        limited = rich_play(parse_pact("b[ba1, [.]]"))
        limited.move(("rounds", 1))
        self.raises(BadAmount, {"value": -1}, least_purse, limited, "a", needed=-1)
        self.raises(BadAmount, {"value": -10 ** 299}, least_purse, play, "f", needed=-10 ** 299)
        before = (play.moves(), play.purses(), play.row())
        least_purse(play, "a", needed=7)
        self.assertEqual((play.moves(), play.purses(), play.row()), before)


class PactsForNeeds(PurseTest):
    def same(self, wanted):
        pact = pact_for(wanted)
        self.assertEqual(fields(need_of(pact, "a")), fields(wanted))
        self.assertTrue(set(pact.text) & set("cdef") == set())

    def test_edges(self):
        for given in ((None, (), None), (0, (), 0), (0, (), None), (0, (), 7), (5, (), 5), (5, (), None), (5, (), 9),
                      (0, ((0, None),), None), (3, ((0, None),), None), (0, ((4, None),), None), (2, ((4, None),), None),
                      (0, ((0, 1),), None), (0, ((0, 1),), 1), (0, ((0, 1),), 2), (1, ((3, 5),), 3), (1, ((3, 5),), None),
                      (0, ((0, 2), (5, 6)), None), (0, ((1, 2), (5, None)), None), (0, ((0, 2), (3, 4)), 3)):
            self.same(Need(*given))

    def test_random_needs(self):
        chance = random.Random(14)
        for _ in range(1500):
            self.same(some_need(chance))

    def test_ten_pairs_and_great_numbers(self):
        pairs = [(i * 10 ** 48 + 3, i * 10 ** 48 + 5 * 10 ** 47) for i in range(9)]
        for last in ((9 * 10 ** 49, BIG), (BIG, None)):
            never = None if last[1] is None else BIG
            for start in (0, 1, 10 ** 49):
                self.same(Need(start, [*pairs, last], never))
                self.same(Need(start, [*pairs, last], None))
        self.same(Need(BIG, (), BIG))
        self.same(Need(0, ((BIG - 1, BIG),), None))


if __name__ == "__main__":
    unittest.main()
