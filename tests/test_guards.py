import random
import time
import unittest

from signedpacts.duties import answered, at_most, never
from signedpacts.errors import BadMark, BadParty, CannotKeep, PlayOver, WrongTurn
from signedpacts.guards import Guard, Spoiler, can_guard, guard_states
from signedpacts.machines import Machine
from signedpacts.notation import parse_pact
from signedpacts.plays import Play
from tests.plain_duties import RICH_PACTS, guards, some_machine, state_of
from tests.plain_pacts import ends_of, moves_here, rich_play, some_pact

NO_PARTIES = ("", "g", "A", "ab", "world")
NOTHING, EVERYTHING = Machine("DE", []), Machine("DE", [[0, 0]])
NO_D = never("DE", "D")


def play_of(text):
    return rich_play(parse_pact(text))


class GuardTest(unittest.TestCase):
    def raises(self, error, fields, call, *arguments):
        with self.assertRaises(error) as caught:
            call(*arguments)
        self.assertEqual(vars(caught.exception), fields)

    def can(self, text, duty, party="a"):
        return can_guard(parse_pact(text), party, duty)


class States(GuardTest):
    def test_each_kind_of_part(self):
        for text, wanted in ((".", True), ("ab1, E, F", True), ("D", False), ("a(D | E)", True), ("b(D | E)", False),
                             ("b(. | E)", True), ("a(D | D, E)", False), ("a[D]", True), ("b[D]", False), ("b[E]", True),
                             ("2(D)", False), ("0(D)", True), ("[D]", True), ("D, [D]", True), ("[D], D", True),
                             ("b(D, [.] | E)", True), ("a[[.]], D", True), ("b[[.]], D", False)):
            self.assertEqual(self.can(text, NO_D), wanted, text)
            self.assertEqual(guard_states(parse_pact(text), "a", NO_D), (0,) if wanted else ())

    def test_states(self):
        duty = answered("DE", "D", "E")
        for text, wanted in ((".", (0,)), ("E", (0, 1)), ("D", ()), ("b(D | E)", ()), ("b(E | .)", (0,)), ("a(D | E)", (0, 1)),
                             ("b[D], a(E | .)", (0, 1)), ("[D]", (0, 1)), ("a[E]", (0, 1)), ("b[E]", (0,))):
            self.assertEqual(guard_states(parse_pact(text), "a", duty), wanted, text)

    def test_nothing_and_everything(self):
        for text in (".", "D", "a(D | .)", "b[D, E]"):
            self.assertEqual((self.can(text, NOTHING), self.can(text, EVERYTHING)), (False, True))
            self.assertEqual(guard_states(parse_pact(text), "a", NOTHING), ())
            self.assertEqual(guard_states(parse_pact(text), "a", EVERYTHING), (0,))
        # A play that is never done need not keep anything, behind no text that can be read, either.
        self.assertTrue(self.can("D, [.]", NOTHING))
        self.assertTrue(self.can("a(D | [.])", NOTHING))
        self.assertFalse(self.can("b(D | [.])", NOTHING))
        self.assertEqual(guard_states(parse_pact("[.]"), "a", NOTHING), ())
        self.assertTrue(self.can("D, D, a[[.]]", at_most("D", "D", 1)))

    def test_a_party_that_the_pact_does_not_name(self):
        self.assertTrue(self.can("a(E | .), b[E]", NO_D, "f"))
        self.assertFalse(self.can("a(D | .)", NO_D, "f"))
        self.assertTrue(self.can("a(D | .)", NO_D, "a"))

    def test_counting(self):
        # Rounds change the set as often as the duty has states.
        counting = Machine("D", [[at + 1 if at < 11 else None] for at in range(12)], [11])
        for many in range(12):
            self.assertEqual(self.can(f"{many}(D), a[D]" if many else "a[D]", counting), True)
        self.assertEqual(guard_states(parse_pact("b[D]"), "a", counting), ())
        self.assertEqual(guard_states(parse_pact("b[D]"), "a", ~counting), (12,))
        self.assertEqual(guard_states(parse_pact("a[D, D, D]"), "a", counting), (2, 5, 8, 11))

    def test_random_pacts(self):
        chance = random.Random(71)
        seen = {True: 0, False: 0}
        for _ in range(1000):
            pact = parse_pact(chance.choice(RICH_PACTS)) if chance.random() < 0.3 else some_pact(chance, 14, "ab", "DE")
            duty, party = some_machine(chance, chance.choice(["DE", "ED", "D", "E"])), chance.choice("aab")
            row, known, most = [(part, None) for part in pact], {}, len(duty.rows) + 2
            states = tuple(state for state in range(len(duty.rows)) if guards(row, state, party, duty, most, known))
            self.assertEqual(guard_states(pact, party, duty), states, (pact.text, duty.rows, duty.good))
            wanted = guards(row, 0 if duty.rows else None, party, duty, most, known)
            self.assertEqual(can_guard(pact, party, duty), wanted)
            seen[wanted] += 1
        self.assertGreater(min(seen.values()), 200)

    def test_nested_rounds(self):
        began = time.monotonic()
        chance = random.Random(72)
        for _ in range(10):
            duty = Machine("DE", [[chance.randrange(12), chance.randrange(12)] for _ in range(12)], [0, 3, 5, 7])
            for owners in ("a" * 20, "ab" * 10, "aab" * 6):
                text = "a(D | E)"
                for owner in owners:
                    text = f"{owner}[{text}]"
                can_guard(parse_pact(text), "a", duty)
                can_guard(parse_pact(text.replace("a(D | E)", "D")), "b", duty)
        self.assertTrue(self.can("20(a[b(D | E)])", NO_D))
        self.assertLess(time.monotonic() - began, 20)

    def test_errors_in_their_order(self):
        bad = Machine("Dx1", [[0, 0, 0]])
        for call in (lambda party, duty: guard_states(parse_pact("D"), party, duty), Guard, Spoiler,
                     lambda party, duty: can_guard(parse_pact("D"), party, duty)):
            for party in NO_PARTIES:
                self.raises(BadParty, {"party": party}, call, party, bad)
            self.raises(BadMark, {"mark": "x"}, call, "a", bad)
            call("f", NO_D)


class Players(GuardTest):
    def test_choices(self):
        self.assertEqual(Guard("a", NO_D).move(play_of("a(D | E | .)")), ("take", 1))
        self.assertEqual(Spoiler("a", NO_D).move(play_of("b(. | E | D)")), ("take", 2))
        self.assertEqual(Guard("a", NO_D).move(play_of("a(b(D | E) | [D])")), ("take", 1))
        self.raises(CannotKeep, {}, Guard("a", NO_D).move, play_of("a(D | b(D | E))"))
        self.raises(CannotKeep, {}, Spoiler("a", NO_D).move, play_of("b(E | a(D | E))"))

    def test_rounds(self):
        twice = Machine("DE", [[1, 0], [2, 1], [None, 2]], [2])
        self.assertEqual(Guard("a", twice).move(play_of("a[D]")), ("rounds", 2))
        self.assertEqual(Guard("a", twice).move(play_of("D, D, a[D]")), ("rounds", 0))
        self.assertEqual(Spoiler("a", at_most("DE", "D", 9)).move(play_of("b[D]")), ("rounds", 10))
        self.assertEqual(Spoiler("a", at_most("DE", "D", 9)).move(play_of("D, b[D, D]")), ("rounds", 5))
        self.raises(CannotKeep, {}, Guard("a", twice).move, play_of("a[D, D, D]"))
        self.raises(CannotKeep, {}, Spoiler("a", NO_D).move, play_of("b[E]"))

    def test_limits(self):
        for limit, answer in ((1, None), (2, ("rounds", 1)), (3, ("rounds", 1)), (10 ** 200, ("rounds", 1))):
            play = play_of("a[D, b[.]]")
            play.move(("rounds", limit))
            play.move(("rounds", 0))
            twice = Machine("D", [[1], [2], [None]], [2])
            if answer is None:
                self.assertEqual(play.turn, "over")
            else:
                self.assertEqual(Guard("a", twice).move(play), answer)
            thrice = Machine("D", [[1], [2], [3], [None]], [3])
            if limit == 2:
                self.raises(CannotKeep, {}, Guard("a", thrice).move, play)
        play = play_of("b[D, a[.]]")
        play.move(("rounds", 10 ** 100))
        play.move(("rounds", 0))
        self.assertEqual(Spoiler("a", at_most("D", "D", 5)).move(play), ("rounds", 5))
        self.assertEqual(Spoiler("a", at_most("D", "D", 1)).move(play), ("rounds", 1))
        # The limit is less than what the spoiler needs.
        play = play_of("b[D, a[.]]")
        play.move(("rounds", 4))
        play.move(("rounds", 0))
        self.raises(CannotKeep, {}, Spoiler("a", at_most("D", "D", 5)).move, play)
        self.assertEqual(Spoiler("a", at_most("D", "D", 3)).move(play), ("rounds", 3))

    def test_limits_behind_the_choice(self):
        def after(text, *moves):
            play = play_of(text)
            for move in moves:
                play.move(move)
            return play

        # The others can still make as many rounds as are left, and no more.
        thrice = at_most("DE", "D", 3)
        for named, answer in ((1, 0), (2, 0), (3, 1), (4, None), (10 ** 200, None)):
            play = after("b[D, a(D | .)]", ("rounds", named))
            if answer is None:
                self.raises(CannotKeep, {}, Guard("a", thrice).move, play)
            else:
                self.assertEqual(Guard("a", thrice).move(play), ("take", answer))
        # The party can still make as many rounds as are left, and no more.
        least = ~at_most("DE", "D", 2)
        for named, answer in ((1, 0), (2, 1), (3, None), (10 ** 200, None)):
            play = after("a[D, b(D | .)]", ("rounds", named))
            if answer is None:
                self.raises(CannotKeep, {}, Spoiler("a", least).move, play)
            else:
                self.assertEqual(Spoiler("a", least).move(play), ("take", answer))

    def test_what_has_happened_counts(self):
        play = play_of("b(D | E), a(D | E)")
        once = at_most("DE", "D", 1)
        play.move(("take", 0))
        self.assertEqual(Guard("a", once).move(play), ("take", 1))
        play.undo()
        play.move(("take", 1))
        self.assertEqual(Guard("a", once).move(play), ("take", 0))

    def test_marks_that_are_not_letters_do_not_count(self):
        play = play_of("F, b(D, F | E), a(D | E), A")
        play.move(("take", 0))
        self.assertEqual(Guard("a", at_most("DE", "D", 1)).move(play), ("take", 1))
        self.assertEqual(Guard("a", at_most("DE", "D", 2)).move(play), ("take", 0))
        self.assertEqual(Spoiler("b", at_most("ED", "D", 1)).move(play), ("take", 0))
        self.raises(CannotKeep, {}, Guard("a", NO_D).move, play)

    def test_endless_rounds(self):
        self.raises(CannotKeep, {}, Spoiler("a", NOTHING).move, play_of("D, [D]"))
        play = play_of("[a(D | E)], D")
        play.move(("rounds", 7))
        self.assertEqual(Guard("a", NO_D).move(play), ("take", 0))
        self.raises(CannotKeep, {}, Spoiler("b", NO_D).move, play)

    def test_parties_without_a_purse(self):
        play = Play(parse_pact("b(E | D)"), {"b": 0})
        self.assertEqual(Spoiler("f", NO_D).move(play), ("take", 1))
        self.raises(WrongTurn, {}, Guard("f", NO_D).move, play)

    def test_the_purses_have_no_influence(self):
        play = Play(parse_pact("a(E, ab5 | D | ab9, E)"), {"a": 0, "b": 0})
        self.assertEqual(Guard("a", NO_D).move(play), ("take", 0))

    def test_errors_in_their_order(self):
        for player in (Guard, Spoiler):
            self.raises(PlayOver, {}, player("a", NOTHING).move, play_of("D"))
        for text in ("b(D | .)", "[D]"):
            self.raises(WrongTurn, {}, Guard("a", NOTHING).move, play_of(text))
        self.raises(WrongTurn, {}, Spoiler("a", EVERYTHING).move, play_of("a(D | .)"))
        play = play_of("a(E | D)")
        before = (play.turn, play.moves(), play.row(), play.happened(), play.purses())
        for _ in range(2):
            self.assertEqual(Guard("a", NO_D).move(play), ("take", 0))
            self.raises(CannotKeep, {}, Guard("a", NOTHING).move, play)
        self.assertEqual((play.turn, play.moves(), play.row(), play.happened(), play.purses()), before)

    def test_each_answer_is_the_least_one(self):
        chance = random.Random(73)
        seen = {}
        for _ in range(2500):
            pact = parse_pact(chance.choice(RICH_PACTS)) if chance.random() < 0.4 else some_pact(chance, 14, "ab", "DE")
            play = rich_play(pact)
            for _ in range(chance.randint(0, 3)):
                if play.turn != "over":
                    play.move(chance.choice(moves_here(play, 3)))
            if play.turn == "over":
                continue
            duty, party = some_machine(chance, "DE"), chance.choice("ab")
            is_for, most, known, wanted = play.turn == party, len(duty.rows) + 2, {}, None
            for move in moves_here(play, most):
                twin = play.twin()
                twin.move(move)
                kept = twin.outcome == "cut" or guards(twin.row(), state_of(twin, duty), party, duty, most, known)
                if kept == is_for:
                    wanted = move
                    break
            player = (Guard if is_for else Spoiler)(party, duty)
            if wanted is None:
                self.raises(CannotKeep, {}, player.move, play)
            else:
                self.assertEqual(player.move(play), wanted, (pact.text, duty.rows, duty.good))
            seen[(is_for, wanted is None)] = seen.get((is_for, wanted is None), 0) + 1
        self.assertTrue(len(seen) == 4 and min(seen.values()) > 50, seen)

    def test_they_reach_their_aim(self):
        chance = random.Random(74)
        ends = {True: 0, False: 0}
        for _ in range(1200):
            pact = parse_pact(chance.choice(RICH_PACTS)) if chance.random() < 0.5 else some_pact(chance, 12, "ab", "DE")
            duty, play = some_machine(chance, "DE"), rich_play(pact)
            is_for = can_guard(pact, "a", duty)
            player = (Guard if is_for else Spoiler)("a", duty)
            for end in ends_of(play, lambda one: player.move(one) if (one.turn == "a") == is_for else None, 2, 40):
                kept = end.outcome != "done" or state_of(end, duty) in duty.good
                self.assertEqual(kept, is_for)
                ends[is_for] += 1
        self.assertGreater(min(ends.values()), 500)


if __name__ == "__main__":
    unittest.main()
