import itertools
import random
import time
import unittest

from signedpacts.balances import balance_row, balances
from signedpacts.countsets import CountSet
from signedpacts.duties import answered, at_most, never
from signedpacts.errors import BadMark, BadParty
from signedpacts.machines import Machine
from signedpacts.notation import parse_pact
from signedpacts.pacts import Choice, Endless, Event, Rounds, Times, Transfer
from signedpacts.runs import history_of, runs
from signedpacts.under import balances_under
from tests.plain_duties import RICH_PACTS, kept_marks, some_machine
from tests.plain_pacts import some_pact
from tests.raising import Raising

NOTHING, EVERYTHING = Machine("DE", []), Machine("DE", [[0, 0]])


class Tables:
    """For each two states of a duty, the state without a number included, the set of the rows that lead from one to the
    other; reckoned part by part as [93] says."""

    def __init__(self, duty, parties, marks):
        self.duty, self.parties, self.marks = duty, parties, marks
        self.width, self.states = len(parties) + len(marks), range(len(duty.rows) + 1)
        self.one = self.table(lambda at, to: at == to, (0,) * self.width)

    def table(self, leads, row):
        return [[CountSet(self.width, start=row) if leads(at, to) else CountSet(self.width) for to in self.states]
                for at in self.states]

    def behind(self, state, mark):
        if mark not in self.duty.letters or state == len(self.duty.rows):
            return state
        entry = self.duty.rows[state][self.duty.letters.index(mark)]
        return len(self.duty.rows) if entry is None else entry

    def either(self, one, other):
        return [[left | right for left, right in zip(*rows)] for rows in zip(one, other)]

    def then(self, one, other):
        found = [[CountSet(self.width) for _ in self.states] for _ in self.states]
        for at, middle, to in itertools.product(self.states, repeat=3):
            if one[at][middle].start is not None and other[middle][to].start is not None:
                found[at][to] = found[at][to] | (one[at][middle] + other[middle][to])
        return found

    def of_parts(self, parts):
        found = self.one
        for part in parts:
            found = self.then(found, self.of_part(part))
        return found

    def of_part(self, part):
        if isinstance(part, (Transfer, Event)):
            row = balance_row([part.text], parties=self.parties, marks=self.marks)
            return self.table(lambda at, to: to == (self.behind(at, part.mark) if isinstance(part, Event) else at), row)
        if isinstance(part, Endless):
            return self.table(lambda at, to: False, (0,) * self.width)
        if isinstance(part, Choice):
            found = self.of_part(Endless(part.options[0]))
            for option in part.options:
                found = self.either(found, self.of_parts(option))
            return found
        inner = self.of_parts(part.body)
        if isinstance(part, Times):
            return self.power(inner, part.count)
        found = self.one
        while True:
            more = self.either(found, self.then(found, inner))
            if more == found:
                return found
            found = more

    def power(self, inner, count):
        found = self.one
        for _ in range(count):
            found = self.then(found, inner)
        return found

    def kept(self, pact):
        found = CountSet(self.width)
        for state in self.duty.good:
            found = found | self.of_parts(pact)[0][state]
        return found


class Under(Raising):
    def test_small_pacts(self):
        for text, duty, start, steps in (
                ("ab5", EVERYTHING, (5, 0), ()), ("ab5", NOTHING, None, ()), ("D, ab5", never("DE", "D"), None, ()),
                ("a(D, ab5 | ab3)", never("DE", "D"), (3, 0), ()), ("[ab1]", EVERYTHING, None, ()), (".", EVERYTHING, (0, 0), ()),
                ("a[D, ab1]", at_most("DE", "D", 0), (0, 0), ()), ("a[D, ab1]", at_most("DE", "D", 1), (0, 0), ((1, 1),)),
                ("a[D, ab2], b[E, ba1]", Machine("DE", [[1, None], [None, 0]], [0]), (0, 0), ((1, 1),)),
                ("a[D, ab2], b[E, ba1]", Machine("DE", [[1, None], [None, 0]], [1]), (2, 1), ()),
                ("a[D, ab2, b[E, ba1]]", Machine("DE", [[1, None], [None, 0]], [0]), (0, 0), ((1, 1),)),
                ("a[D, ab2, b[E, ba1]]", Machine("DE", [[1, None], [2, None], [0, None]], [1]), (2, 1), ((6, 3),))):
            found = balances_under(parse_pact(text), duty, parties="b", marks="D")
            self.assertEqual((found.start, found.steps), (start, steps), text)

    def test_a_duty_that_leaves_one_play(self):
        once = Machine("D", [[1], [2], [None]], [2])
        found = balances_under(parse_pact("b[D, ab3]"), once, parties="ab", marks="")
        self.assertEqual((found.start, found.steps), ((-6, 6), ()))
        self.assertTrue(found.holds(((1, 1), 0, 0)))

    def test_everything_and_nothing(self):
        chance = random.Random(171)
        for _ in range(200):
            pact = some_pact(chance, 24, "abc", "DEF")
            for parties, marks in (("ab", "D"), ("abc", "DEF"), ("", ""), ("f", "Z")):
                self.assertEqual(balances_under(pact, EVERYTHING, parties=parties, marks=marks),
                                 balances(pact, parties=parties, marks=marks))
                self.assertEqual(balances_under(pact, NOTHING, parties=parties, marks=marks), CountSet(len(parties + marks)))

    def test_part_by_part(self):
        chance = random.Random(172)
        ranks = {}
        for _ in range(250):
            pact = parse_pact(chance.choice(RICH_PACTS)) if chance.random() < 0.3 else some_pact(chance, 16, "ab", "DE")
            duty = some_machine(chance, chance.choice(["DE", "ED", "E", "DF"]))
            found = balances_under(pact, duty, parties="ab", marks="DE")
            wanted = Tables(duty, "ab", "DE").kept(pact) if duty.rows else CountSet(4)
            self.assertEqual(found, wanted, (pact.text, duty.rows, duty.good))
            ranks[found.start and found.rank] = ranks.get(found.start and found.rank, 0) + 1
        self.assertTrue(all(ranks.get(rank, 0) > 5 for rank in (None, 0, 1, 2)), ranks)

    def test_all_plays_are_in_the_set(self):
        chance = random.Random(173)
        checked = 0
        for _ in range(250):
            pact = parse_pact(chance.choice(RICH_PACTS)) if chance.random() < 0.5 else some_pact(chance, 14, "ab", "DE")
            duty = chance.choice([some_machine(chance, "DE"), answered("DE", "D", "E"), ~answered("DE", "D", "E")])
            found = balances_under(pact, duty, parties="ab", marks="D")
            rows = [balance_row(told, parties="ab", marks="D") for _, told, done in itertools.islice(runs(pact, most=2), 300)
                    if done and kept_marks(history_of(told), "DE") in duty]
            self.assertTrue(all(row in found for row in rows))
            self.assertTrue(CountSet.around(3, rows[:40]).within(found))
            checked += len(rows)
        self.assertGreater(checked, 1000)

    def test_great_sizes(self):
        began = time.monotonic()
        marks = "ABCDEF"
        duty = Machine(marks, [[(state + at) % 6 for at in range(6)] for state in range(6)], [3, 5])
        great = 10 ** 60
        text = f"a[b[c(A, ab{great} | B, bc7 | C, cd{great - 1} | D, de3 | E, ef{great // 7} | F)], d[fa11]], e[2(ab1), f[A]]"
        pact = parse_pact(text)
        self.assertTrue(20 <= pact.weight <= 24)
        found = balances_under(pact, duty, parties="abcdef", marks=marks)
        self.assertEqual(found.claims(), Tables(duty, "abcdef", marks).kept(pact).claims())
        self.assertLess(time.monotonic() - began, 60)

    def test_errors_in_their_order(self):
        pact = parse_pact("D")
        for letters, mark in (("Dx1", "x"), ("?", "?"), ("Dd", "d")):
            bad = Machine(letters, [[0] * len(letters)])
            self.raises(BadMark, {"mark": mark}, balances_under, pact, bad, parties="g", marks="h")
        self.raises(BadParty, {"party": "g"}, balances_under, pact, EVERYTHING, parties="agA", marks="h")
        self.raises(BadMark, {"mark": "h"}, balances_under, pact, NOTHING, parties="af", marks="Dh1")
        with self.assertRaises(TypeError):
            balances_under(pact, EVERYTHING, "a", "D")


if __name__ == "__main__":
    unittest.main()
