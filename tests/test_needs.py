import random
import unittest

from signedpacts.errors import BadAmount, BadCount, BadNeed
from signedpacts.needs import Need
from tests.plain_needs import REACH, fields, orbit, order, some_need, value

GREAT = 10 ** 100
IDENTITY = (0, ((0, None),), None)
NOTHING = (None, (), None)
# Beyond this number every result of small needs has settled; orbits have, too, after so many rounds.
FAR = 8 * REACH
MANY = 4 * REACH


def needs(seed, count):
    chance = random.Random(seed)
    return [some_need(chance) for _ in range(count)]


class NeedTest(unittest.TestCase):
    def check(self, need, reckoned, far=FAR):
        """The need has the canonical form, and the reckoned value for each number up to `far` and for None."""
        self.assertEqual(fields(Need(*fields(need))), fields(need))
        for kept in (need.rises, *need.rises):
            self.assertIs(type(kept), tuple)
        for k in [*range(far), None]:
            self.assertEqual(value(fields(need), k), reckoned(k), (fields(need), k))
            self.assertEqual(need(k), reckoned(k))
        # No end of a pair lies so far away that the comparison would miss it.
        for pair in need.rises:
            self.assertTrue(all(end is None or end < far for end in pair))

    def raises(self, error, field, worth, call, *arguments):
        with self.assertRaises(error) as caught:
            call(*arguments)
        self.assertEqual(getattr(caught.exception, field), worth)


class Fields(NeedTest):
    def test_example(self):
        f = Need(2, ((5, None),), None)
        self.assertEqual((f(20), f.mine().rises, f.theirs().start, f.rounds_to_afford(30000002, 2),
                          f.rounds_to_exceed(1, 1)), (17, ((0, 2),), 2, 10000000, 1))

    def test_fields(self):
        pairs = [[0, 3], [5, 6]]
        need = Need(1, pairs, 9)
        pairs[0][1] = 4
        pairs.append([8, None])
        self.assertEqual(fields(need), (1, ((0, 3), (5, 6)), 9))
        self.assertEqual(fields(Need(None, [], None)), NOTHING)
        self.assertEqual(fields(Need(0, (), 0)), (0, (), 0))
        self.assertEqual(fields(Need(4, [(2, 5)], 7)), (4, ((2, 5),), 7))
        self.assertEqual(fields(Need(4, [(2, 5)], None)), (4, ((2, 5),), None))

    def test_bad_start(self):
        for rises, never in (((), None), (((3, 2),), -1), (((0, None), (1, 2)), 5)):
            self.raises(BadNeed, "field", "start", Need, -1, rises, never)

    def test_bad_rises(self):
        for rises in ([(-1, 2)], [(2, 2)], [(3, 2)], [(0, 2), (2, 4)], [(0, 2), (1, 4)], [(5, 6), (0, 2)],
                      [(0, None), (1, 2)], [(0, None), (5, None)], [(0, 2), (4, 3)], [(-1, None)], [(0, 2), (2, None)]):
            self.raises(BadNeed, "field", "rises", Need, 1, rises, None)
            self.raises(BadNeed, "field", "rises", Need, 1, rises, 0)
            self.raises(BadNeed, "field", "rises", Need, None, rises, None)
        self.raises(BadNeed, "field", "rises", Need, None, [(0, 1)], None)
        self.raises(BadNeed, "field", "rises", Need, None, [(0, None)], 3)

    def test_bad_never(self):
        for start, rises, never in ((None, (), 0), (3, (), 2), (3, (), -1), (3, [(0, 2)], 4), (3, [(0, None)], 1000),
                                    (3, [(0, 2), (4, None)], 0), (0, (), -1), (1, [(0, GREAT)], GREAT)):
            self.raises(BadNeed, "field", "never", Need, start, rises, never)
        self.assertEqual(Need(1, [(0, GREAT)], GREAT + 1)(None), GREAT + 1)

    def test_calls(self):
        for need in needs(1, 150):
            self.check(need, lambda k: value(fields(need), k))

    def test_calls_with_great_numbers(self):
        need = Need(GREAT, [(GREAT, 2 * GREAT), (3 * GREAT, None)], None)
        self.assertEqual([need(k) for k in (0, GREAT, GREAT + 5, 2 * GREAT, 3 * GREAT, 9 * GREAT, None)],
                         [GREAT, GREAT, GREAT + 5, 2 * GREAT, 2 * GREAT, 8 * GREAT, None])

    def test_negative_sums(self):
        for need in (Need(3, [(0, None)], None), Need(3, [], 3), Need(*NOTHING)):
            for k in (-1, -GREAT):
                self.raises(BadAmount, "value", k, need, k)

    def test_equal(self):
        every = needs(2, 60)
        for one in every:
            for other in every:
                self.assertEqual(one == other, fields(one) == fields(other))
                self.assertEqual(one != other, fields(one) != fields(other))
        self.assertFalse(Need(0, (), None) == (0, (), None))
        self.assertFalse(Need(0, (), None) == Need(0, (), 0))
        self.assertFalse(Need(None, (), None) is None or Need(None, (), None) == None)  # noqa: E711

    def test_a_great_many_pairs(self):
        need = Need(0, [(3 * at, 3 * at + 1) for at in range(3000)], 3000)
        self.assertEqual([need(3 * at + 1) for at in range(3000)], list(range(1, 3001)))
        self.assertEqual(len((need >> need).rises), 1000)


class Operators(NeedTest):
    def test_behind_each_other(self):
        every = needs(3, 40)
        for f in every:
            for g in every:
                self.check(f >> g, lambda k: value(fields(f), value(fields(g), k)))

    def test_smaller_and_greater(self):
        every = needs(4, 25)
        for f in every:
            for g in every:
                self.check(f | g, lambda k: min(value(fields(f), k), value(fields(g), k), key=order), 2 * FAR)
                self.check(f & g, lambda k: max(value(fields(f), k), value(fields(g), k), key=order), 2 * FAR)

    def test_several_times(self):
        for f in needs(5, 50):
            for n in (0, 1, 2, 3, 7, 10):
                self.check(f * n, lambda k: orbit(f, k, n + 1)[-1], 12 * REACH)

    def test_not_once_and_very_often(self):
        for f in needs(6, 60):
            self.assertEqual(fields(f * 0), IDENTITY)
            often = f * 400
            for k in (0, 1, 5, 3 * REACH, None):
                self.assertEqual(often(k), orbit(f, k, 401)[-1])
        self.assertEqual(fields(Need(7, [(0, None)], None) * 400), (2800, ((0, None),), None))
        self.assertEqual(fields(Need(0, [(7, None)], None) * 400), (0, ((2800, None),), None))
        self.assertEqual(fields(Need(*NOTHING) * 400), NOTHING)
        self.assertEqual(fields(Need(*NOTHING) * 0), IDENTITY)

    def test_bad_counts(self):
        for f in (Need(1, [(0, None)], None), Need(*NOTHING)):
            for n in (-1, 401, GREAT, -GREAT):
                self.raises(BadCount, "value", n, lambda: f * n)

    def test_nothing_is_changed(self):
        f, g = Need(2, [(5, None)], None), Need(1, [(0, 3)], 9)
        before = fields(f), fields(g)
        for _ in range(2):
            results = [f >> g, f | g, f & g, f * 5, f.mine(), f.theirs(), f.endless()]
            self.assertEqual(results, [f >> g, f | g, f & g, f * 5, f.mine(), f.theirs(), f.endless()])
            self.assertEqual((fields(f), fields(g)), before)


class WithoutEnd(NeedTest):
    """`mine`, `theirs` and `endless` against the lists that the document names, as far as they are needed."""

    def greatest(self, need, k):
        """The greatest value of the list; None if there is None in it, or if it grows on and on."""
        values = orbit(need, k, MANY)
        if values[-1] is None or values[-1] != values[-2] and values[-1] > values[-2]:
            return None
        return max(values, key=order)

    def test_mine(self):
        for f in needs(7, 150):
            if f.start is None:
                self.assertEqual(fields(f.mine()), IDENTITY)
            else:
                self.check(f.mine(), lambda k: min(orbit(f, k, MANY), key=order), 40)

    def test_theirs(self):
        for f in needs(8, 150):
            self.check(f.theirs(), lambda k: self.greatest(f, k), 40)

    def test_endless(self):
        for f in needs(9, 150):
            self.check(f.endless(), lambda k: self.greatest(f, 0), 40)

    def test_fields(self):
        pays, gets = Need(3, [(0, None)], None), Need(0, [(3, None)], None)
        self.assertEqual([fields(f.mine()) for f in (pays, gets, Need(*NOTHING), Need(*IDENTITY))],
                         [IDENTITY, (0, (), None), IDENTITY, IDENTITY])
        self.assertEqual([fields(f.theirs()) for f in (pays, gets, Need(*NOTHING), Need(*IDENTITY))],
                         [NOTHING, IDENTITY, NOTHING, IDENTITY])
        self.assertEqual([fields(f.endless()) for f in (pays, gets, Need(*NOTHING), Need(*IDENTITY))],
                         [NOTHING, (0, (), 0), NOTHING, (0, (), 0)])
        self.assertEqual([fields(g) for f in [Need(4, [(1, 3)], 20)] for g in (f.mine(), f.theirs(), f.endless())],
                         [(0, ((0, 6),), 6), (6, ((6, None),), None), (6, (), 6)])
        self.assertEqual([fields(Need(4, [(1, 3)], None).mine()), fields(Need(0, [], 0).mine())],
                         [(0, ((0, 6),), None), (0, (), 0)])

    def test_great_numbers(self):
        f = Need(GREAT, [(0, GREAT), (3 * GREAT, 9 * GREAT)], None)
        self.assertEqual(fields(f.mine()), (0, ((0, 2 * GREAT),), None))
        self.assertEqual(fields(f.theirs()), (2 * GREAT, ((2 * GREAT, None),), None))
        self.assertEqual(fields(f.endless()), (2 * GREAT, (), 2 * GREAT))


class Comparisons(NeedTest):
    def test_excess(self):
        every = needs(10, 50)
        for f in every:
            for g in every:
                above = [k for k in [*range(FAR), None] if order(value(fields(f), k)) > order(value(fields(g), k))]
                self.assertEqual(f.excess(g), tuple(above[:1]))

    def test_excess_for_none_only(self):
        self.assertEqual(Need(3, [], None).excess(Need(3, [], 7)), (None,))
        self.assertEqual(Need(3, [], 8).excess(Need(3, [], 7)), (None,))
        self.assertEqual(Need(3, [], 7).excess(Need(3, [], 7)), ())
        self.assertEqual(Need(3, [], 7).excess(Need(3, [], None)), ())
        self.assertEqual(Need(*NOTHING).excess(Need(3, [], 7)), (0,))
        self.assertEqual(Need(*NOTHING).excess(Need(*NOTHING)), ())
        self.assertEqual(Need(3, [], 7).excess(Need(*NOTHING)), ())

    def test_excess_far_away(self):
        self.assertEqual(Need(0, [(0, None)], None).excess(Need(GREAT, [], None)), (GREAT + 1,))
        self.assertEqual(Need(0, [(0, GREAT)], None).excess(Need(GREAT, [], None)), ())
        self.assertEqual(Need(0, [(0, GREAT)], None).excess(Need(GREAT - 1, [], None)), (GREAT,))

    def test_surely(self):
        for f in needs(11, 80):
            for purse in range(40):
                enough = [k for k in range(FAR) if order(value(fields(f), k)) <= order(purse)]
                told = -1 if not enough else None if enough[-1] == FAR - 1 else enough[-1]
                self.assertEqual(f.surely(purse), told)

    def test_surely_at_the_edges(self):
        self.assertEqual([Need(5, [(3, 5)], None).surely(purse) for purse in (0, 4, 5, 6, 7, 8)],
                         [-1, -1, 3, 4, None, None])
        self.assertEqual(Need(*NOTHING).surely(GREAT), -1)
        self.assertEqual(Need(1, [(GREAT, None)], None).surely(GREAT), 2 * GREAT - 1)


class RoundsOfNeeds(NeedTest):
    def test_rounds(self):
        for f in needs(12, 60):
            for needed in [*range(0, 3 * REACH, 2), None]:
                values = orbit(f, needed, MANY + 40)
                for purse in range(0, 3 * REACH, 3):
                    afford = [n for n, k in enumerate(values) if k is not None and k <= purse]
                    exceed = [n for n, k in enumerate(values) if k is None or k > purse]
                    self.assertEqual(f.rounds_to_afford(needed, purse), afford[0] if afford else None)
                    self.assertEqual(f.rounds_to_exceed(needed, purse), exceed[0] if exceed else None)

    def test_lowest_and_highest(self):
        for f in needs(13, 60):
            for needed in [*range(0, 3 * REACH, 2), None]:
                values = orbit(f, needed, 60)
                for limit in (0, 1, 2, 3, 5, 20, 59):
                    self.assertEqual(f.lowest(needed, limit), min(values[:limit + 1], key=order))
                    self.assertEqual(f.highest(needed, limit), max(values[:limit + 1], key=order))

    def test_none_as_a_needed_sum(self):
        f = Need(0, [(3, 7)], 30)
        self.assertEqual(f.rounds_to_afford(None, 30), 1)
        self.assertEqual(f.rounds_to_afford(None, 4), 2)
        self.assertEqual(f.rounds_to_afford(None, 3), 3)
        self.assertEqual(f.rounds_to_exceed(None, GREAT), 0)
        self.assertEqual([f.lowest(None, limit) for limit in (0, 1, 2, 9)], [None, 30, 4, 0])
        self.assertEqual([f.highest(None, limit) for limit in (0, 1, 2, 9)], [None] * 4)
        never = Need(0, [(3, 7)], None)
        self.assertEqual((never.rounds_to_afford(None, 30), never.lowest(None, GREAT)), (None, None))
        self.assertEqual((Need(*NOTHING).rounds_to_exceed(5, 5), Need(*NOTHING).rounds_to_exceed(6, 5)), (1, 0))
        self.assertEqual((Need(*NOTHING).rounds_to_afford(5, 4), Need(*NOTHING).rounds_to_afford(5, 5)), (None, 0))
        self.assertEqual((Need(*NOTHING).lowest(5, 1), Need(*NOTHING).highest(5, 1), Need(*NOTHING).highest(5, 0)),
                         (5, None, 5))

    def test_a_hundred_digits_and_more(self):
        gets, pays = Need(0, [(3, None)], None), Need(7, [(0, None)], None)
        self.assertEqual(gets.rounds_to_afford(3 * GREAT + 1, 1), GREAT)
        self.assertEqual(gets.rounds_to_afford(3 * GREAT + 2, 1), GREAT + 1)
        self.assertEqual(pays.rounds_to_exceed(0, 7 * GREAT), GREAT + 1)
        self.assertEqual(pays.rounds_to_exceed(1, 7 * GREAT), GREAT)
        self.assertEqual(pays.rounds_to_afford(1, 0), None)
        self.assertEqual(gets.rounds_to_exceed(GREAT, GREAT), None)
        self.assertEqual((pays.highest(1, GREAT), pays.lowest(1, GREAT)), (7 * GREAT + 1, 1))
        self.assertEqual((gets.highest(GREAT, 10), gets.lowest(GREAT, 10)), (GREAT, GREAT - 30))
        self.assertEqual(gets.lowest(GREAT, GREAT), 0)

    def test_many_rounds_through_many_pairs(self):
        # Between 10 GREAT and 20 GREAT a round takes away 5, below that (behind a flat piece) 2, in the end 0.
        f = Need(4, [(4, 6), (8, 10 * GREAT), (10 * GREAT + 3, 20 * GREAT)], None)
        self.assertEqual([f(k) - k for k in (6, 8, GREAT, 10 * GREAT + 3, 20 * GREAT)], [0, -2, -2, -5, -5])
        for purse in (20 * GREAT - 1, 10 * GREAT + 4, 10 * GREAT - 100, GREAT, 7, 6):
            needed = f.rounds_to_afford(20 * GREAT, purse)
            self.assertTrue(f.lowest(20 * GREAT, needed) <= purse < f.lowest(20 * GREAT, needed - 1))
        self.assertEqual(f.rounds_to_afford(20 * GREAT, 10 * GREAT + 3), 2 * GREAT)
        self.assertIsNone(f.rounds_to_afford(20 * GREAT, 5))
        self.assertEqual(f.lowest(20 * GREAT, 100 * GREAT), 6)
