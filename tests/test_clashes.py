import itertools
import random
import time
import unittest

from signedpacts.clashes import core, first_clash
from signedpacts.duties import answered, at_most, never, only_after
from signedpacts.errors import BadMark, LettersDiffer
from signedpacts.histories import histories
from signedpacts.machines import Machine
from signedpacts.notation import parse_pact
from tests.plain_duties import RICH_PACTS, some_machine
from tests.plain_pacts import some_pact


def behind(machine, text):
    """The machine that accepts what can follow the text."""
    state = machine.after(text)
    if state is None:
        return Machine(machine.letters, [])
    rows = [machine.rows[state], *machine.rows]
    moved = [[None if entry is None else entry + 1 for entry in row] for row in rows]
    good = [at + 1 for at in machine.good] + ([0] if state in machine.good else [])
    return Machine(machine.letters, moved, good)


def is_some(*machines):
    """True if all machines accept some text together."""
    both = machines[0]
    for machine in machines[1:]:
        both = both & machine
    return both.first_text() is not None


def some_case(chance, letters):
    """A pact and a maker of duties for it."""
    pact = parse_pact(chance.choice(RICH_PACTS)) if chance.random() < 0.7 else some_pact(chance, 16, "ab", "DE")
    return pact, lambda: some_machine(chance, letters, 3)


class ClashTest(unittest.TestCase):
    def raises(self, error, fields, call, *arguments):
        with self.assertRaises(error) as caught:
            call(*arguments)
        self.assertEqual(vars(caught.exception), fields)


class Clashes(ClashTest):
    def test_small_cases(self):
        pact = parse_pact("a[D, b(E | .)]")
        nothing, everything = Machine("DE", []), Machine("DE", [[0, 0]])
        self.assertEqual(first_clash(pact, never("DE", "D"), ~never("DE", "D")), "")
        self.assertIsNone(first_clash(pact, everything, everything))
        self.assertIsNone(first_clash(pact, nothing, everything))
        self.assertIsNone(first_clash(pact, nothing, nothing))
        self.assertIsNone(first_clash(parse_pact("[D]"), everything, never("DE", "D")))
        # Behind DD the one duty asks for an E, and the other one forbids it.
        self.assertEqual(first_clash(pact, answered("DE", "D", "E"), at_most("DE", "E", 0)), "D")
        self.assertIsNone(first_clash(pact, answered("DE", "D", "E"), only_after("DE", "E", "D")))
        self.assertEqual(first_clash(parse_pact("a(D, E | E, D)"), never("DE", "D") | Machine("DE", [[1, None], [None, 2], [None, None]]),
                                     Machine("DE", [[None, 1], [2, None], [None, None]])), "")

    def test_random_duties(self):
        chance = random.Random(61)
        lengths = {}
        for _ in range(1500):
            letters = chance.choice(["DE", "ED"])
            pact, some = some_case(chance, letters)
            often = [answered(letters, "D", "E"), at_most(letters, "E", 1), only_after(letters, "E", "D"), never(letters, "E")]
            one, other = chance.choice([some(), chance.choice(often)]), chance.choice([some(), ~chance.choice(often)])
            found, told = first_clash(pact, one, other), histories(pact, letters=letters)
            plain = None
            for text in ("".join(signs) for many in range(5) for signs in itertools.product(letters, repeat=many)):
                rest = behind(told, text)
                mine, its = behind(one, text), behind(other, text)
                if is_some(rest, mine) and is_some(rest, its) and not is_some(rest, mine, its):
                    plain = text
                    break
            if plain is not None or (found is not None and len(found) < 5):
                self.assertEqual(found, plain, (pact.text, one.rows, other.rows))
            lengths[found and len(found)] = lengths.get(found and len(found), 0) + 1
        self.assertTrue(all(lengths.get(many, 0) > 2 for many in (None, "", 1, 2)), lengths)

    def test_errors_in_their_order(self):
        pact = parse_pact("D")
        good, more = Machine("DE", [[0, 0]]), Machine("ED", [[0, 0]])
        bad, worse = Machine("Dx", [[0, 0]]), Machine("yDz", [])
        self.raises(BadMark, {"mark": "x"}, first_clash, pact, bad, worse)
        self.raises(BadMark, {"mark": "y"}, first_clash, pact, good, worse)
        self.raises(BadMark, {"mark": "x"}, first_clash, pact, more, bad)
        self.raises(LettersDiffer, {}, first_clash, pact, good, more)
        self.raises(BadMark, {"mark": "x"}, core, pact, [good, more, bad, worse])
        self.raises(LettersDiffer, {}, core, pact, [good, good, more])
        self.raises(BadMark, {"mark": "y"}, core, pact, [worse])


class Cores(ClashTest):
    def test_small_cases(self):
        pact = parse_pact("a[b(D | E)]")
        everything, nothing = Machine("DE", [[0, 0]]), Machine("DE", [])
        self.assertEqual(core(pact, []), ())
        self.assertEqual(core(pact, ()), ())
        self.assertEqual(core(pact, [everything]), ())
        self.assertEqual(core(pact, [nothing]), (0,))
        self.assertEqual(core(pact, [never("DE", "D"), never("DE", "D")]), (0,))
        # The last ones are left out first.
        self.assertEqual(core(pact, [never("DE", "D"), at_most("DE", "D", 2)]), (0,))
        self.assertEqual(core(pact, [at_most("DE", "D", 2), never("DE", "D")]), (1,))
        self.assertEqual(core(pact, [never("DE", "D"), never("DE", "E"), Machine("DE", [[None, None]])]), (0, 1))
        self.assertEqual(core(pact, [nothing, never("DE", "D"), everything, nothing]), (0,))
        self.assertEqual(core(parse_pact("[D]"), [nothing, never("DE", "D")]), ())
        self.assertEqual(core(parse_pact("D"), [nothing, never("DE", "D"), never("DE", "E")]), (0,))
        self.assertEqual(core(parse_pact("a(D | .)"), [never("DE", "D"), never("DE", "E")]), (0,))
        self.assertEqual(core(pact, [only_after("DE", "E", "D"), answered("DE", "D", "E"), at_most("DE", "E", 3)]), (0, 1, 2))

    def test_random_duties(self):
        chance = random.Random(62)
        sizes = {}
        for _ in range(1200):
            pact, some = some_case(chance, "DE")
            duties = [some() for _ in range(chance.randint(0, 5))]
            told = histories(pact, letters="DE")
            kept = list(range(len(duties)))
            for number in reversed(range(len(duties))):
                rest = told
                for other in kept:
                    rest = rest & duties[other] if other != number else rest
                if (rest - duties[number]).first_text() is None:
                    kept.remove(number)
            self.assertEqual(core(pact, duties), tuple(kept))
            sizes[len(kept)] = sizes.get(len(kept), 0) + 1
        self.assertTrue(all(sizes.get(many, 0) > 10 for many in (0, 1, 2)), sizes)

    def test_great_duties(self):
        began = time.monotonic()
        letters = "ABCDE"

        def rest(mark, good):
            rows = [[(state + 1) & 15 if letter == mark else state for letter in letters] for state in range(16)]
            turned = [[0 if entry == 12 else entry for entry in row] for row in rows[:12]]
            return Machine(letters, turned, [state for state in range(12) if good(state)])

        pact = parse_pact("a[b(A | B | C | D | E)]")
        duties = [rest(mark, lambda state: state != 7) for mark in letters]
        self.assertEqual(core(pact, duties), (0, 1, 2, 3, 4))
        duties[4] = rest("A", lambda state: state not in (3, 7))
        self.assertEqual(core(pact, duties), (1, 2, 3, 4))
        self.assertEqual(core(pact, [rest("A", lambda state: state % 2), *duties[1:4], rest("A", lambda state: state % 2 == 0)]),
                         (0, 4))
        self.assertLess(time.monotonic() - began, 40)


if __name__ == "__main__":
    unittest.main()
