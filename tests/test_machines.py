import itertools
import random
import unittest

from signedpacts.errors import BadLetters, BadRow, BadState, LettersDiffer
from signedpacts.machines import Machine
from tests.plain import all_texts, language, reads, some_machines, some_rows

NONE = Machine("ab", [])
ALL = Machine("ab", [[0, 0]])
EMPTY_TEXT = Machine("ab", [[None, None]])


class Constructor(unittest.TestCase):
    def test_example(self):
        m = Machine("ab", [[1, None], [None, 0], [2, 2]], [0])
        self.assertEqual((m.rows, m.good, "abab" in m, m.how_many(4), (~m).first_text()),
                         (((1, None), (None, 0)), (0,), True, 1, "a"))

    def test_bad_letters(self):
        for letters in ("", "aa", "aba", "abcdefghijka"):
            with self.assertRaises(BadLetters) as caught:
                Machine(letters, [])
            self.assertEqual(caught.exception.letters, letters)

    def test_twelve_letters_and_odd_ones(self):
        self.assertEqual(Machine("abcdefghijkl", [[0] * 12]).how_many(3), 12 ** 3)
        self.assertIn(" ~ (", Machine(" (~", [[0, 0, 0]]))

    def test_first_bad_row(self):
        cases = [
            ([[0]], 0), ([[0, 0, 0]], 0), ([[]], 0), ([[0, 1]], 0), ([[0, -1]], 0), ([[-1, None]], 0),
            ([[0, 1], [0, 2]], 1), ([[0, 1], [1, 1], [3, None]], 2), ([[0, 1], [5, 5], [7]], 1),
            ([[0, 1], [1], [9, 9]], 1),
        ]
        for rows, state in cases:
            with self.assertRaises(BadRow) as caught:
                Machine("ab", rows)
            self.assertEqual(caught.exception.state, state, rows)

    def test_first_bad_state(self):
        for good, state in (([2], 2), ([0, -1, 7], -1), ([1, 0, 3, -2], 3), ((1, 1, 2), 2)):
            with self.assertRaises(BadState) as caught:
                Machine("ab", [[0, 1], [None, None]], good)
            self.assertEqual(caught.exception.state, state)

    def test_good_state_without_rows(self):
        with self.assertRaises(BadState) as caught:
            Machine("ab", [], [0])
        self.assertEqual(caught.exception.state, 0)

    def test_order_of_the_errors(self):
        with self.assertRaises(BadLetters):
            Machine("aa", [[5]], [9])
        with self.assertRaises(BadRow) as caught:
            Machine("ab", [[0, 0], [5, 0]], [9])
        self.assertEqual(caught.exception.state, 1)

    def test_no_rows(self):
        for good in (None, [], ()):
            machine = Machine("ab", [], good)
            self.assertEqual((machine.letters, machine.rows, machine.good), ("ab", (), ()))

    def test_good_states_in_any_order(self):
        rows = [[1, 2], [2, 0], [0, 1]]
        for good in ([2, 0], (0, 2), [0, 2, 0, 2, 2]):
            machine = Machine("ab", rows, good)
            self.assertEqual((machine.rows, machine.good), (((1, 2), (2, 0), (0, 1)), (0, 2)))
        self.assertEqual(Machine("ab", rows, None).good, (0,))
        self.assertEqual(Machine("ab", rows).good, (0,))


class NormalForm(unittest.TestCase):
    def test_fields_and_kinds(self):
        machine = Machine("ba", ([1, 0], (None, 1)), (1,))
        self.assertEqual((machine.letters, machine.rows, machine.good), ("ba", ((1, 0), (None, 1)), (1,)))

    def test_states_are_numbered_as_they_are_met(self):
        machine = Machine("ab", [[3, 1], [None, 2], [None, None], [1, None]], [2])
        self.assertEqual((machine.rows, machine.good), (((1, 2), (2, None), (None, 3), (None, None)), (3,)))

    def test_needless_states_are_left_out(self):
        machine = Machine("ab", [[1, 2], [1, None], [2, 2], [0, 1]], [1, 3])
        self.assertEqual((machine.rows, machine.good), (((1, None), (1, None)), (1,)))

    def test_states_with_the_same_texts_are_one(self):
        machine = Machine("ab", [[1, 2], [3, None], [4, None], [0, 0], [0, 0]], [3, 4])
        self.assertEqual((machine.rows, machine.good), (((1, 1), (2, None), (0, 0)), (2,)))

    def test_no_accepted_text(self):
        for rows, good in (([[0, 0]], []), ([[0, 1], [0, 0], [2, 2]], [2]), ([[None, None], [1, 1]], [1])):
            machine = Machine("ab", rows, good)
            self.assertEqual((machine.rows, machine.good), ((), ()))
            self.assertEqual(machine, NONE)

    def test_against_a_plain_reckoning(self):
        chance = random.Random(4)
        texts = all_texts("ab", 8)
        fields = {}
        for _ in range(400):
            rows = some_rows(chance, 2, 4)
            good = [chance.randrange(len(rows)) for _ in range(chance.randint(0, 3))]
            machine = Machine("ab", rows, good)
            told = tuple(text for text in texts if reads("ab", rows, good, text))
            self.assertEqual(tuple(language(machine, 8)), told)
            # With the state for what cannot be read, each has at most 5 states: texts of up to 8 letters
            # tell any two of these machines apart.
            self.assertEqual(fields.setdefault(told, (machine.rows, machine.good)), (machine.rows, machine.good))
            self.check_form(machine)

    def check_form(self, machine):
        ends = [{text for text in all_texts("ab", 4) if self.leads(machine, state, text)}
                for state in range(len(machine.rows))]
        self.assertTrue(all(ends))
        self.assertEqual(len(set(map(frozenset, ends))), len(ends))
        self.assertEqual(machine.good, tuple(sorted(set(machine.good))))
        met = [0] if machine.rows else []
        for row in machine.rows:
            met.extend(sorted({e for e in row if e is not None and e not in met}, key=row.index))
        self.assertEqual(met, list(range(len(machine.rows))))

    def leads(self, machine, state, text):
        for character in text:
            state = None if state is None else machine.rows[state][machine.letters.index(character)]
        return state in machine.good

    def test_renumbered_rows_give_equal_fields(self):
        chance = random.Random(8)
        for machine in some_machines(3, "abc", 60, most=8):
            many = len(machine.rows)
            copies = [[state, state + many] for state in range(many)]
            order = [0] + chance.sample(range(1, 2 * many), 2 * many - 1) if many else []
            rows = [[None if e is None else order.index(chance.choice(copies[e])) for e in machine.rows[state % many]]
                    for state in order]
            good = [at for at, state in enumerate(order) if state % many in machine.good]
            again = Machine("abc", rows, good)
            self.assertEqual((again.rows, again.good), (machine.rows, machine.good))
            self.assertTrue(again == machine)

    def test_long_chain_with_alike_ends(self):
        rows = [[state + 1, state + 1] for state in range(39)] + [[None, 39]]
        self.assertEqual(Machine("ab", rows, [39]).rows, tuple(map(tuple, rows)))
        self.assertEqual(Machine("ab", [[(state + 1) % 40, (state + 7) % 40] for state in range(40)]).rows, ((0, 0),))


class Operators(unittest.TestCase):
    def test_against_a_plain_reckoning(self):
        machines = [NONE, ALL, EMPTY_TEXT, *some_machines(1, "ab", 12)]
        texts = all_texts("ab", 6)
        for one, other in itertools.product(machines, repeat=2):
            mine, its = set(language(one, 6)), set(language(other, 6))
            self.assertEqual(set(language(one & other, 6)), mine & its)
            self.assertEqual(set(language(one | other, 6)), mine | its)
            self.assertEqual(set(language(one - other, 6)), mine - its)
            self.assertEqual(set(language(one >> other, 6)),
                             {text for text in texts for cut in range(len(text) + 1)
                              if text[:cut] in mine and text[cut:] in its})
        for one in machines:
            self.assertEqual(set(language(~one, 6)), set(texts) - set(language(one, 6)))
            self.assertEqual(~~one, one)

    def test_three_letters_behind_one_another(self):
        texts = all_texts("xyz", 4)
        for one, other in zip(some_machines(5, "xyz", 40), some_machines(6, "xyz", 40)):
            mine, its = set(language(one, 4)), set(language(other, 4))
            self.assertEqual(set(language(one >> other, 4)),
                             {text for text in texts for cut in range(len(text) + 1)
                              if text[:cut] in mine and text[cut:] in its})

    def test_in(self):
        machine = Machine("ab", [[1, None], [None, 0]], [1])
        self.assertIs("a" in machine, True)
        self.assertIs("aba" in machine, True)
        for text in ("", "ab", "b", "ac", "c", "A", "a ", "abab", "aab"):
            self.assertIs(text in machine, False)
        self.assertIs("" in NONE, False)
        self.assertIs("" in EMPTY_TEXT, True)
        self.assertIs("c" in ALL, False)

    def test_equal(self):
        self.assertTrue(Machine("ab", [[0, 1], [0, 1]]) == ALL)
        self.assertFalse(Machine("ab", [[0, 1], [0, 1]]) != ALL)
        self.assertFalse(ALL == Machine("ba", [[0, 0]]))
        self.assertFalse(ALL == Machine("abc", [[0, 0, 0]]))
        self.assertFalse(ALL == NONE)
        self.assertFalse(ALL == Machine("ab", [[1, 1], [0, 0]], [0]))
        for other in (None, 0, "ab", ((0, 0),), [ALL]):
            self.assertFalse(ALL == other)
            self.assertTrue(ALL != other)

    def test_letters_differ(self):
        for letters in ("ba", "abc", "a", "cd"):
            other = Machine(letters, [[0] * len(letters)])
            for call in (lambda: ALL & other, lambda: ALL | other, lambda: ALL - other, lambda: ALL >> other,
                         lambda: NONE & other, lambda: other >> NONE):
                with self.assertRaises(LettersDiffer):
                    call()

    def test_machines_without_accepted_texts(self):
        for machine in some_machines(2, "ab", 10):
            self.assertEqual(machine & NONE, NONE)
            self.assertEqual(machine | NONE, machine)
            self.assertEqual(machine - NONE, machine)
            self.assertEqual(NONE - machine, NONE)
            self.assertEqual(machine >> NONE, NONE)
            self.assertEqual(NONE >> machine, NONE)
            self.assertEqual(EMPTY_TEXT >> machine, machine)
            self.assertEqual(machine >> EMPTY_TEXT, machine)
        self.assertEqual(~NONE, ALL)
        self.assertEqual(~ALL, NONE)


class Methods(unittest.TestCase):
    def test_after(self):
        machine = Machine("ab", [[1, None], [None, 2], [2, None]], [2])
        self.assertEqual([machine.after(text) for text in ("", "a", "ab", "aba", "aa", "b", "abb", "c", "aca", "abc")],
                         [0, 1, 2, 2, None, None, None, None, None, None])
        self.assertEqual([NONE.after(text) for text in ("", "a", "c")], [None, None, None])

    def test_first_text(self):
        self.assertIsNone(NONE.first_text())
        self.assertEqual(ALL.first_text(), "")
        self.assertEqual(Machine("ba", [[1, 1], [None, None]], [1]).first_text(), "b")
        self.assertEqual(Machine("ab", [[1, 2], [3, None], [None, 4], [None, None], [None, None]], [4]).first_text(),
                         "bb")
        for machine in some_machines(11, "cab", 80, most=8):
            told = language(machine, 6)
            if told or not machine.rows:
                self.assertEqual(machine.first_text(), told[0] if told else None)
            else:
                self.assertEqual(len(machine.first_text()), 7)

    def test_first_text_of_a_long_chain(self):
        machine = Machine("ab", [[None, state + 1] for state in range(39)] + [[None, None]], [39])
        self.assertEqual((machine >> machine >> machine).first_text(), "b" * 117)

    def test_texts_and_how_many(self):
        for machine in [NONE, ALL, EMPTY_TEXT, *some_machines(12, "ba", 40)]:
            told = language(machine, 6)
            for length in range(7):
                just = [text for text in told if len(text) == length]
                self.assertEqual(list(machine.texts(length)), just)
                self.assertEqual(machine.how_many(length), len(just))

    def test_great_lengths(self):
        self.assertEqual(ALL.how_many(200), 2 ** 200)
        self.assertEqual(NONE.how_many(200), 0)
        self.assertEqual(list(itertools.islice(ALL.texts(200), 3)), ["a" * 200, "a" * 199 + "b", "a" * 198 + "ba"])
        odd = Machine("ba", [[0, 1], [1, 0]], [1])
        self.assertEqual(odd.how_many(200), 2 ** 199)
        self.assertEqual(list(itertools.islice(odd.texts(200), 2)), ["b" * 199 + "a", "b" * 198 + "ab"])
        # Only texts that end in time are followed, or else the first text would be found very late.
        late = ALL >> Machine("ab", [[None, 1], [None, 2], [None, None]], [2])
        self.assertEqual(next(late.texts(200)), "a" * 198 + "bb")
        self.assertEqual(list(EMPTY_TEXT.texts(200)), [])

    def test_rounds(self):
        texts = all_texts("ab", 6)
        for machine in [NONE, ALL, EMPTY_TEXT, *some_machines(13, "ab", 40)]:
            pieces = set(language(machine, 6))
            told = {""}
            for text in texts:
                if any(text[:cut] in told and text[cut:] in pieces for cut in range(len(text))):
                    told.add(text)
            self.assertEqual(set(language(machine.rounds(), 6)), told)
        self.assertEqual(NONE.rounds(), EMPTY_TEXT)

    def test_beginnings(self):
        for machine in [NONE, ALL, EMPTY_TEXT, *some_machines(14, "ab", 40, most=4)]:
            whole = language(machine, 8)
            told = [text for text in all_texts("ab", 4) if any(one.startswith(text) for one in whole)]
            self.assertEqual(language(machine.beginnings(), 4), told)

    def test_unending(self):
        for machine in [NONE, ALL, EMPTY_TEXT, *some_machines(15, "ab", 80, most=5)]:
            whole = set(language(machine, 10))
            kept = [text for text in all_texts("ab", 10) if all(text[:cut] in whole for cut in range(len(text) + 1))]
            # Who goes on for 6 more letters among at most 5 states can go on without end.
            told = [text for text in all_texts("ab", 4)
                    if any(one.startswith(text) and len(one) == 10 for one in kept)]
            self.assertEqual(language(machine.unending(), 4), told)
            self.assertEqual(machine.unending().good, tuple(range(len(machine.unending().rows))))
        self.assertEqual(Machine("ab", [[1, None], [1, None]], [1]).unending(), NONE)
        self.assertEqual(Machine("ab", [[1, 2], [1, None], [None, None]]).unending(),
                         Machine("ab", [[0, None]]))


class Sizes(unittest.TestCase):
    def test_products_of_forty_states(self):
        letters = "abcdefghijkl"
        chance = random.Random(20)
        one, other = (Machine(letters, [[chance.randrange(40) for _ in letters] for _ in range(40)],
                              chance.sample(range(40), 20)) for _ in range(2))
        for result, kept in ((one & other, lambda x, y: x and y), (one | other, lambda x, y: x or y),
                             (one - other, lambda x, y: x and not y)):
            self.assertEqual(len(result.rows), 1600)
            for text in all_texts(letters, 3)[::17]:
                self.assertEqual(text in result, kept(text in one, text in other))

    def test_a_mark_far_from_the_end(self):
        right = Machine("ab", [[1, None]] + [[state, state] for state in range(2, 12)] + [[None, None]], [11])
        machine = ALL >> right
        self.assertEqual(len(machine.rows), 2 ** 11)
        self.assertEqual(machine.how_many(200), 2 ** 199)
        self.assertEqual(list(itertools.islice(machine.texts(200), 1)), ["a" * 200])
        self.assertEqual(len((~machine).rows), 2 ** 11)

    def test_right_machines_of_32_states(self):
        chance = random.Random(21)
        for _ in range(10):
            rows = [[chance.randrange(32), min(state + 1, 31)] for state in range(31)] + [[31, 31]]
            right = Machine("ab", rows, [31])
            self.assertEqual(len(right.rows), 32)
            # 31 times b leads into the state that takes all.
            machine = ALL >> right
            self.assertIn("ab" + "b" * 31 + "a", machine)
            self.assertEqual(machine, machine | right)

    def test_rounds_of_twelve_states(self):
        rows = [[(state + 1) % 12, 0 if state == 0 else (state + 1) % 12] for state in range(11)] + [[0, None]]
        machine = Machine("ab", rows, [0])
        self.assertEqual(machine.rounds(), machine)
        chance = random.Random(22)
        for _ in range(20):
            rows = [[chance.randrange(12) if chance.random() < 0.9 else None for _ in range(3)] for _ in range(12)]
            machine = Machine("abc", rows, [chance.randrange(12)])
            again = machine.rounds()
            self.assertEqual(again, again >> again)
            self.assertEqual(machine - again, Machine("abc", []))

    def test_four_thousand_states(self):
        link = Machine("ab", [[state + 1, None] for state in range(31)] + [[None, None]], [31])
        machine = link
        for _ in range(125):
            machine = machine >> link
        self.assertEqual(len(machine.rows), 31 * 126 + 1)
        self.assertEqual(machine.first_text(), "a" * (31 * 126))
        self.assertEqual(machine.unending(), Machine("ab", []))
        self.assertEqual(len((~machine).rows), 31 * 126 + 2)
        self.assertEqual(machine.beginnings().how_many(200), 1)
