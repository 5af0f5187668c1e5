import itertools
import math
import random
import unittest

from signedpacts.claims import keeps
from signedpacts.countsets import CountSet
from signedpacts.errors import BadWidth
from tests.plain import box, combined, is_staircase, reached

GREAT = 10 ** 300


def random_row(chance, width, most):
    return tuple(chance.randint(-most, most) for _ in range(width))


def random_set(chance, width, most):
    if chance.random() < 0.1:
        return CountSet(width)
    steps = [random_row(chance, width, most) for _ in range(chance.randint(0, width + 1))]
    return CountSet(width, start=random_row(chance, width, most), steps=steps)


def rows_that_tell(counts):
    """Some rows of a set around which the set is the least one."""
    if counts.start is None:
        return []
    return [counts.start] + [tuple(map(sum, zip(counts.start, step))) for step in counts.steps]


class UniqueForm(unittest.TestCase):
    def check_form(self, counts):
        if counts.start is None:
            self.assertEqual(counts.steps, ())
            return
        self.assertTrue(is_staircase(counts.steps, counts.width))
        for step in counts.steps:
            column = [at for at in range(counts.width) if step[at]][0]
            self.assertTrue(0 <= counts.start[column] < step[column])
        for value in (counts.start, counts.steps, *counts.steps):
            self.assertIs(type(value), tuple)

    def test_fields(self):
        counts = CountSet(2, start=[7, 9], steps=[[3, 0], (1, 2)])
        self.assertEqual((counts.width, counts.start, counts.steps, counts.rank), (2, (0, 1), ((1, 2), (0, 6)), 2))
        alone = CountSet(2, start=(7, -9))
        self.assertEqual((alone.start, alone.steps, alone.rank), ((7, -9), (), 0))

    def test_empty_set(self):
        for counts in (CountSet(3), CountSet(3, start=None, steps=[(1, 2)]), CountSet(3, steps=[(1,), ()]),
                       CountSet.around(3, []), CountSet.around(3, ())):
            self.assertEqual((counts.width, counts.start, counts.steps, counts.rank), (3, None, (), 0))

    def test_no_columns(self):
        counts = CountSet(0, start=(), steps=[(), ()])
        self.assertEqual((counts.start, counts.steps, counts.claims()), ((), (), ()))
        self.assertIn((), counts)
        self.assertNotIn((), CountSet(0))
        self.assertNotEqual(counts, CountSet(0))
        self.assertEqual(CountSet.around(0, [(), ()]), counts)

    def test_from_whichever_start_and_steps(self):
        chance = random.Random(1)
        for _ in range(200):
            width = chance.randint(1, 4)
            steps = [random_row(chance, width, 7) for _ in range(chance.randint(0, 4))]
            start = random_row(chance, width, 30)
            counts = CountSet(width, start=start, steps=steps)
            self.check_form(counts)
            factors = [chance.randint(-5, 5) for _ in steps]
            other = tuple(map(sum, zip(start, combined(steps, factors, width))))
            more = steps[::-1] + [combined(steps, factors, width), (0,) * width]
            again = CountSet(width, start=other, steps=more)
            self.assertEqual((again.start, again.steps), (counts.start, counts.steps))
            self.assertTrue(again == counts)

    def test_around(self):
        counts = CountSet.around(2, [(1, 1), (4, 1), [2, 3]])
        self.assertEqual((counts.start, counts.steps), ((0, 5), ((1, 2), (0, 6))))
        self.assertEqual(CountSet.around(2, ([5, -5],)), CountSet(2, start=(5, -5)))
        chance = random.Random(2)
        for _ in range(100):
            width = chance.randint(1, 4)
            rows = [random_row(chance, width, 9) for _ in range(chance.randint(1, 6))]
            counts = CountSet.around(width, rows)
            self.check_form(counts)
            self.assertTrue(all(row in counts for row in rows))
            chance.shuffle(rows)
            self.assertEqual(CountSet.around(width, rows), counts)
            between = [tuple(x - y for x, y in zip(row, rows[0])) for row in rows]
            self.assertEqual(CountSet(width, start=rows[0], steps=between), counts)

    def test_bad_widths(self):
        cases = [
            ((1,), [], 1), ((1, 2, 3), [(1,)], 3), ((1, 2), [(1, 2), (1, 2, 3), ()], 3), ((1, 2), [()], 0), ((), [], 0),
        ]
        for start, steps, width in cases:
            with self.assertRaises(BadWidth) as caught:
                CountSet(2, start=start, steps=steps)
            self.assertEqual(caught.exception.width, width)
        for rows, width in (([(1,)], 1), ([(1, 2), (1, 2, 3), (1,)], 3), ([(1, 2), ()], 0)):
            with self.assertRaises(BadWidth) as caught:
                CountSet.around(2, rows)
            self.assertEqual(caught.exception.width, width)

    def test_forty_great_steps(self):
        chance = random.Random(3)
        steps = [random_row(chance, 16, GREAT) for _ in range(40)]
        counts = CountSet(16, start=steps[0], steps=[tuple(2 * entry for entry in step) for step in steps])
        self.assertEqual(counts.rank, 16)
        self.assertEqual([step[at] for at, step in enumerate(counts.steps)], [2] * 16)
        self.check_form(counts)


class Rows(unittest.TestCase):
    def test_in_against_a_plain_search(self):
        chance = random.Random(4)
        for _ in range(40):
            steps = [random_row(chance, 2, 3) for _ in range(chance.randint(0, 3))]
            start = random_row(chance, 2, 3)
            counts = CountSet(2, start=start, steps=steps)
            inside = reached(steps, 2, 16)
            for row in box(2, 4):
                told = (row[0] - start[0], row[1] - start[1]) in inside
                self.assertIs(row in counts, told)
                self.assertIs(list(row) in counts, told)

    def test_rows_of_another_width(self):
        counts = CountSet(2, start=(0, 0), steps=[(1, 0), (0, 1)])
        for row in ((), (0,), (0, 0, 0)):
            self.assertIs(row in counts, False)
            self.assertIs(row in CountSet(2), False)
            self.assertIsNone(counts.coordinates(row))
            self.assertIsNone(CountSet(2).coordinates(row))
        self.assertIs((0, 0) in CountSet(2), False)

    def test_coordinates(self):
        counts = CountSet(2, start=(0, 1), steps=[(1, 2), (0, 6)])
        self.assertEqual(counts.coordinates((4, 3)), (4, -1))
        self.assertEqual(counts.coordinates([4, 3]), (4, -1))
        self.assertIsNone(counts.coordinates((4, 4)))
        self.assertIsNone(CountSet(2).coordinates((0, 1)))
        self.assertEqual(CountSet(2, start=(5, 5)).coordinates((5, 5)), ())
        self.assertIsNone(CountSet(2, start=(5, 5)).coordinates((5, 4)))
        self.assertEqual(CountSet(0, start=()).coordinates(()), ())
        chance = random.Random(5)
        for _ in range(200):
            counts = random_set(chance, chance.randint(1, 4), chance.choice([3, GREAT]))
            if counts.start is not None:
                factors = tuple(chance.randint(-9, 9) for _ in counts.steps)
                row = tuple(map(sum, zip(counts.start, combined(counts.steps, factors, counts.width))))
                self.assertEqual(counts.coordinates(row), factors)
                self.assertIn(row, counts)

    def test_equal(self):
        self.assertFalse(CountSet(2) == CountSet(3))
        self.assertTrue(CountSet(2) == CountSet.around(2, []))
        self.assertFalse(CountSet(2, start=(0, 0)) == CountSet(2))
        self.assertTrue(CountSet(1, start=(5,), steps=[(-2,)]) == CountSet(1, start=(1,), steps=[(4,), (6,)]))
        self.assertTrue(CountSet(1, start=(5,), steps=[(-2,)]) != CountSet(1, start=(1,), steps=[(4,)]))
        for other in (None, 1, (), ((0, 0), ())):
            self.assertFalse(CountSet(2, start=(0, 0)) == other)

    def test_within(self):
        evens, numbers = CountSet(1, start=(0,), steps=[(2,)]), CountSet(1, start=(0,), steps=[(1,)])
        self.assertIs(evens.within(numbers), True)
        self.assertIs(numbers.within(evens), False)
        self.assertIs(CountSet(1, start=(3,), steps=[(4,)]).within(evens), False)
        self.assertIs(CountSet(1, start=(2,), steps=[(4,)]).within(evens), True)
        self.assertIs(CountSet(1).within(evens), True)
        self.assertIs(evens.within(CountSet(1)), False)
        self.assertIs(CountSet(1).within(CountSet(1)), True)
        self.assertIs(CountSet(1).within(CountSet(2)), False)
        self.assertIs(CountSet(1, start=(0,)).within(CountSet(2, start=(0, 0), steps=[(1, 0), (0, 1)])), False)
        chance = random.Random(6)
        for _ in range(300):
            one, other = random_set(chance, 2, 2), random_set(chance, 2, 2)
            self.assertIs(one.within(other), all(row in other for row in rows_that_tell(one)))


class Operators(unittest.TestCase):
    def test_sum(self):
        chance = random.Random(7)
        for _ in range(150):
            width = chance.randint(1, 3)
            one, other = random_set(chance, width, 4), random_set(chance, width, 4)
            sums = [tuple(map(sum, zip(row, more)))
                    for row in rows_that_tell(one) for more in rows_that_tell(other)]
            self.assertEqual(one + other, CountSet.around(width, sums))
        self.assertEqual(CountSet(1, start=(1,), steps=[(4,)]) + CountSet(1, start=(2,), steps=[(6,)]),
                         CountSet(1, start=(1,), steps=[(2,)]))

    def test_least_set_of_both(self):
        chance = random.Random(8)
        for _ in range(150):
            width = chance.randint(1, 3)
            one, other = random_set(chance, width, 4), random_set(chance, width, 4)
            self.assertEqual(one | other, CountSet.around(width, rows_that_tell(one) + rows_that_tell(other)))

    def test_empty_sets(self):
        none, some = CountSet(2), CountSet(2, start=(1, 2), steps=[(3, 3)])
        for result in (none + some, some + none, none + none, none | none, none * 1, none * 10 ** 6):
            self.assertEqual(result, none)
        for result in (none | some, some | none):
            self.assertEqual(result, some)
        zeros = CountSet(2, start=(0, 0))
        self.assertEqual((none * 0, none.rounds(), some * 0), (zeros, zeros, zeros))

    def test_widths_differ(self):
        for one in (CountSet(2), CountSet(2, start=(1, 1))):
            for other in (CountSet(3), CountSet(0), CountSet(3, start=(0, 0, 0))):
                for call in (lambda: one + other, lambda: one | other):
                    with self.assertRaises(BadWidth) as caught:
                        call()
                    self.assertEqual(caught.exception.width, other.width)

    def test_times(self):
        counts = CountSet(2, start=(1, 5), steps=[(0, 7)])
        self.assertEqual(counts * 10 ** 6, CountSet(2, start=(10 ** 6, 5 * 10 ** 6), steps=[(0, 7)]))
        self.assertEqual(counts * 1, counts)
        self.assertEqual(counts * 0, CountSet(2, start=(0, 0)))
        total = CountSet(2, start=(0, 0))
        for many in range(8):
            self.assertEqual(counts * many, total)
            total = total + counts
        great = CountSet(1, start=(GREAT - 1,), steps=[(GREAT,)])
        self.assertEqual((great * 10 ** 6).start, (GREAT - 10 ** 6,))

    def test_rounds(self):
        self.assertEqual(CountSet(2, start=(2, 4)).rounds(), CountSet(2, start=(0, 0), steps=[(2, 4)]))
        self.assertEqual(CountSet(1, start=(1,), steps=[(4,)]).rounds(), CountSet(1, start=(0,), steps=[(1,)]))
        chance = random.Random(9)
        for _ in range(100):
            counts = random_set(chance, 2, 5)
            least = CountSet(2)
            for many in range(4):
                least = least | (counts * many)
            self.assertEqual(counts.rounds(), least)


class Claims(unittest.TestCase):
    def test_holds(self):
        counts = CountSet(2, start=(1, 2), steps=[(2, 4), (0, 6)])
        for claim, told in ((((2, -1), 0, 6), True), (((2, -1), 0, 0), False), (((1, 0), 1, 2), True),
                            (((1, 0), 0, 2), False), (((1, 0), 7, 1), True), (((0, 0), 0, 0), True),
                            (((0, 0), 1, 0), False), ([[0, 1], 8, 2], True)):
            self.assertIs(counts.holds(claim), told, claim)
        self.assertIs(CountSet(2, start=(3, 4)).holds(((1, 1), 7, 0)), True)
        self.assertIs(CountSet(2, start=(3, 4)).holds(((1, 1), 8, 0)), False)

    def test_holds_in_the_empty_set(self):
        for claim in (((0, 0), 1, 0), ((1, 2), 3, 4)):
            self.assertIs(CountSet(2).holds(claim), True)

    def test_holds_with_another_width(self):
        for counts in (CountSet(2), CountSet(2, start=(0, 0))):
            for coefs in ((), (1,), (1, 2, 3)):
                with self.assertRaises(BadWidth) as caught:
                    counts.holds((coefs, 0, 0))
                self.assertEqual(caught.exception.width, len(coefs))

    def test_holds_as_every_row_keeps_the_claim(self):
        chance = random.Random(10)
        for _ in range(300):
            counts = random_set(chance, 2, 3)
            claim = (random_row(chance, 2, 3), chance.randint(-3, 3), chance.randint(0, 4))
            rows = [combined([counts.start, *counts.steps], [1, *factors], 2)
                    for factors in box(counts.rank, 2)] if counts.start else []
            self.assertIs(counts.holds(claim), all(keeps(row, claim) for row in rows))

    def check_terms(self, counts, claims):
        self.assertIs(type(claims), tuple)
        self.assertLessEqual(len(claims), counts.width)
        for claim in claims:
            coefs, result, modulus = claim
            self.assertTrue(type(claim) is tuple and type(coefs) is tuple and len(coefs) == counts.width)
            self.assertTrue(modulus == 0 or modulus >= 2)
            self.assertEqual(math.gcd(modulus, *coefs), 1)
            if modulus:
                self.assertTrue(all(0 <= number < modulus for number in (*coefs, result)))
            else:
                self.assertGreater([coef for coef in coefs if coef][0], 0)
            self.assertTrue(counts.holds(claim))

    def test_claims_describe_the_set_exactly(self):
        chance = random.Random(11)
        for _ in range(250):
            width = chance.randint(0, 3)
            counts = random_set(chance, width, 6)
            if counts.start is None:
                continue
            claims = counts.claims()
            self.check_terms(counts, claims)
            for row in box(width, 4):
                self.assertEqual(row in counts, all(keeps(row, claim) for claim in claims))
            for factors in itertools.islice(box(counts.rank, 1), 30):
                row = combined([counts.start, *counts.steps], [1, *factors], width)
                self.assertTrue(all(keeps(row, claim) for claim in claims))

    def test_claims_of_one_row_and_of_all_rows(self):
        one = CountSet(3, start=(4, -5, 6)).claims()
        self.check_terms(CountSet(3, start=(4, -5, 6)), one)
        self.assertEqual(len(one), 3)
        self.assertEqual(CountSet(2, start=(0, 0), steps=[(1, 0), (0, 1)]).claims(), ())

    def test_claims_of_the_empty_set(self):
        for width in (0, 1, 3):
            self.assertEqual(CountSet(width).claims(), (((0,) * width, 1, 0),))

    def test_equal_sets_return_equal_claims(self):
        one = CountSet(3, start=(9, 9, 9), steps=[(2, 4, 6), (0, 3, 3)])
        other = CountSet(3, start=(7, 2, 0), steps=[(2, 7, 9), (0, -3, -3), (2, 4, 6)])
        self.assertEqual(one, other)
        self.assertEqual(one.claims(), other.claims())
        self.assertEqual(one.claims(), one.claims())

    def test_great_sets(self):
        chance = random.Random(12)
        for many in (1, 8, 15, 16):
            steps = [random_row(chance, 16, GREAT) for _ in range(many)]
            counts = CountSet(16, start=random_row(chance, 16, GREAT), steps=steps)
            claims = counts.claims()
            self.check_terms(counts, claims)
            beside = (counts.start[0] + 1, *counts.start[1:])
            self.assertEqual(beside in counts, all(keeps(beside, claim) for claim in claims))
            self.assertEqual((counts + counts).steps, counts.steps)
