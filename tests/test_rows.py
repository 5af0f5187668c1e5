import random
import unittest

from signedpacts.claims import keeps
from signedpacts.rows import combine
from signedpacts.stairs import remainder, staircase
from tests.plain import combined, is_staircase, reached

GREAT = 10 ** 300


def random_rows(chance, many, width, most):
    return [tuple(chance.randint(-most, most) for _ in range(width)) for _ in range(many)]


class Combine(unittest.TestCase):
    def test_combinations(self):
        self.assertEqual(combine([(1, 2), (3, -4)], [2, -1], width=2), (-1, 8))
        self.assertEqual(combine(((1, 0, 5),), (0,), width=3), (0, 0, 0))
        self.assertEqual(combine([[1, 2]] * 60, list(range(60)), width=2), (1770, 3540))

    def test_no_rows_and_no_columns(self):
        self.assertEqual(combine([], [], width=3), (0, 0, 0))
        self.assertEqual(combine([], [], width=0), ())
        self.assertEqual(combine([(), ()], [5, 6], width=0), ())

    def test_great_numbers(self):
        self.assertEqual(combine([(GREAT, -GREAT), (1, 1)], [GREAT, -7], width=2),
                         (GREAT * GREAT - 7, -GREAT * GREAT - 7))

    def test_width_is_passed_by_keyword(self):
        with self.assertRaises(TypeError):
            combine([], [], 3)


class Keeps(unittest.TestCase):
    def test_modulus_zero(self):
        self.assertIs(keeps((1, 2), ((3, 4), 11, 0)), True)
        self.assertIs(keeps((1, 2), ((3, 4), 10, 0)), False)
        self.assertIs(keeps([1, -2], [[3, 4], -5, 0]), True)

    def test_modulus_above_zero(self):
        for total in range(-20, 21):
            for result in range(-7, 8):
                for modulus in (1, 2, 3, 10):
                    self.assertIs(keeps((total, 5), ((1, 0), result, modulus)), (total - result) % modulus == 0)

    def test_no_columns(self):
        self.assertIs(keeps((), ((), 0, 0)), True)
        self.assertIs(keeps((), ((), 1, 0)), False)
        self.assertIs(keeps((), ((), 6, 3)), True)
        self.assertIs(keeps((), ((), 7, 3)), False)

    def test_great_numbers(self):
        claim = ((GREAT, 1), 3, GREAT)
        self.assertIs(keeps((-GREAT, 3), claim), True)
        self.assertIs(keeps((-GREAT, 4), claim), False)


class Staircase(unittest.TestCase):
    def check(self, rows, width):
        steps, factors = staircase(rows, width=width)
        self.assertTrue(is_staircase(steps, width))
        self.assertEqual(len(factors), len(steps))
        for value in (steps, factors, *steps, *factors):
            self.assertIs(type(value), tuple)
        for step, numbers in zip(steps, factors):
            self.assertEqual(combined(rows, numbers, width), step)
        for row in rows:
            rest, numbers = remainder(row, steps)
            self.assertEqual(rest, (0,) * width)
            self.assertEqual(combined(steps, numbers, width), tuple(row))
        return steps

    def test_examples(self):
        self.assertEqual(staircase([(3, 0), (1, 2)], width=2)[0], ((1, 2), (0, 6)))
        self.assertEqual(remainder((4, 3), ((1, 2), (0, 6))), ((0, 1), (4, -1)))

    def test_no_rows_and_no_columns(self):
        self.assertEqual(staircase([], width=4), ((), ()))
        self.assertEqual(staircase([], width=0), ((), ()))
        self.assertEqual(staircase([(), ()], width=0), ((), ()))
        self.assertEqual(staircase([(0, 0), [0, 0]], width=2), ((), ()))

    def test_known_staircases(self):
        self.assertEqual(self.check([(-4,), (6,)], 1), ((2,),))
        self.assertEqual(self.check([(0, -3, 1)], 3), ((0, 3, -1),))
        self.assertEqual(self.check([(2, 4), (2, 4), (-6, -12)], 2), ((2, 4),))
        self.assertEqual(self.check([(2, 1), (0, 3), (4, 5)], 2), ((2, 1), (0, 3)))
        self.assertEqual(self.check([(1, -5), (0, 3)], 2), ((1, 1), (0, 3)))
        self.assertEqual(self.check([(0, 0, 2), (0, 3, 3), (5, 4, 3)], 3), ((5, 1, 0), (0, 3, 1), (0, 0, 2)))

    def test_rows_that_depend_on_each_other(self):
        chance = random.Random(1)
        for _ in range(200):
            width = chance.randint(1, 5)
            rows = random_rows(chance, chance.randint(1, 4), width, 6)
            more = [combined(rows, [chance.randint(-3, 3) for _ in rows], width) for _ in range(4)]
            mixed = rows + more
            chance.shuffle(mixed)
            self.assertEqual(self.check(mixed, width), self.check(rows, width))
            self.assertEqual(self.check(rows[::-1] + [(0,) * width], width), self.check(rows, width))

    def test_other_rows_with_other_combinations(self):
        self.assertNotEqual(self.check([(2, 0), (0, 2)], 2), self.check([(2, 0), (0, 1)], 2))

    def test_same_combinations_as_a_plain_search(self):
        chance = random.Random(2)
        for _ in range(60):
            rows = random_rows(chance, chance.randint(0, 3), 2, 3)
            steps = staircase(rows, width=2)[0]
            inside = reached(rows, 2, 12)
            for row in [(x, y) for x in range(-4, 5) for y in range(-4, 5)]:
                self.assertEqual(remainder(row, steps)[0] == (0, 0), row in inside)

    def test_lists_and_tuples(self):
        self.assertEqual(staircase(([3, 0], [1, 2]), width=2), staircase([(3, 0), (1, 2)], width=2))

    def test_forty_great_rows(self):
        chance = random.Random(3)
        self.assertEqual(self.check(random_rows(chance, 40, 6, GREAT), 6),
                         tuple(tuple(int(row == column) for column in range(6)) for row in range(6)))
        self.check([tuple(GREAT // 3 ** 10 * 3 ** max(0, 10 - at) * entry for entry in row)
                    for at, row in enumerate(random_rows(chance, 40, 6, 10 ** 20))], 6)

    def test_six_great_rows_of_sixteen_columns(self):
        chance = random.Random(4)
        rows = random_rows(chance, 6, 16, GREAT)
        steps = self.check(rows, 16)
        self.assertEqual(len(steps), 6)
        self.assertEqual(self.check(rows[::-1], 16), steps)

    def test_a_great_staircase_and_six_rows(self):
        chance = random.Random(5)
        stairs = [tuple([0] * at + [chance.randint(GREAT // 2, GREAT)] + [0] * (15 - at)) for at in range(16)]
        rows = random_rows(chance, 6, 16, GREAT)
        steps = self.check(stairs + rows, 16)
        self.assertEqual(len(steps), 16)
        self.assertEqual(self.check(rows + stairs, 16), steps)

    def test_factors_stay_small(self):
        chance = random.Random(6)
        _, factors = staircase(random_rows(chance, 40, 6, 10 ** 6), width=6)
        self.assertLess(max(abs(number) for numbers in factors for number in numbers), 10 ** 60)


class Remainder(unittest.TestCase):
    def test_the_only_rest(self):
        chance = random.Random(7)
        for _ in range(300):
            width = chance.randint(1, 5)
            most = chance.choice([3, 50, GREAT])
            steps = staircase(random_rows(chance, chance.randint(0, 4), width, most), width=width)[0]
            row = random_rows(chance, 1, width, most * 5)[0]
            rest, factors = remainder(row, steps)
            parts = combined(steps, factors, width)
            self.assertEqual(tuple(one + other for one, other in zip(rest, parts)), row)
            for step in steps:
                column = [at for at in range(width) if step[at]][0]
                self.assertTrue(0 <= rest[column] < step[column])

    def test_kinds(self):
        for row in ([4, 3], (4, 3)):
            for steps in (((1, 2), (0, 6)), [[1, 2], [0, 6]]):
                self.assertEqual(remainder(row, steps), ((0, 1), (4, -1)))

    def test_no_steps_and_no_columns(self):
        self.assertEqual(remainder((5, -6), ()), ((5, -6), ()))
        self.assertEqual(remainder((), ()), ((), ()))

    def test_negative_numbers(self):
        self.assertEqual(remainder((-1, -1), ((2, 1), (0, 3))), ((1, 0), (-1, 0)))
        self.assertEqual(remainder((-7,), ((3,),)), ((2,), (-3,)))
