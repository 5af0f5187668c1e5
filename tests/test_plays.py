import random
import unittest

from signedpacts.errors import BadAmount, BadMove, BadPart, BadParty, NoMoves, NoPurse, PlayOver
from signedpacts.notation import parse_pact
from signedpacts.pacts import Choice, Endless, Event, Pact, Times, Transfer
from signedpacts.plays import Play
from tests.plain_pacts import moves_here, some_pact

HUGE = 10 ** 200


def play_of(text, **purses):
    return Play(parse_pact(text), purses)


def state(play):
    """All that a play tells."""
    return (play.turn, play.outcome, play.loser, play.purses(), list(play.purses()), play.moves(), play.happened(),
            [(part.text, limit) for part, limit in play.row()])


class PlainPlay:
    """A play that always begins anew and goes through the members of a list."""

    def __init__(self, pact, purses, moves):
        self.purses, self.told, self.left = dict(purses), [], list(moves)
        self.row = [(part, None) for part in pact]
        self.turn = self.outcome = self.loser = None
        while self.turn is None:
            self.step()

    def end(self, outcome, loser=None):
        self.turn, self.outcome, self.loser = "over", outcome, loser

    def ask(self, owner):
        """The number of the next move, or None if none is left."""
        if not self.left:
            self.turn = owner
            return None
        return self.left.pop(0)[1]

    def step(self):
        if not self.row:
            return self.end("done")
        part, limit = self.row[0]
        behind = self.row[1:]
        if isinstance(part, Transfer):
            if self.purses[part.payer] < part.amount:
                return self.end("failed", part.payer)
            self.purses[part.payer] -= part.amount
            self.purses[part.payee] += part.amount
        if isinstance(part, (Transfer, Event)):
            self.told.append(part.text)
            self.row = behind
        elif isinstance(part, Times):
            rest = [(Times(part.count - 1, part.body), None)] if part.count > 1 else []
            self.row = ([(one, None) for one in part.body] if part.count else []) + rest + behind
        elif isinstance(part, Choice):
            number = self.ask(part.owner)
            if number is not None:
                self.row = [(one, None) for one in part.options[number]] + behind
        else:
            endless = isinstance(part, Endless)
            number = 0 if limit == 0 else self.ask("world" if endless else part.owner)
            if number == 0:
                if endless:
                    return self.end("cut")
                self.row = behind
            elif number is not None:
                self.row = [(one, None) for one in part.body] + [(part, number - 1)] + behind

    def state(self, moves):
        return (self.turn, self.outcome, self.loser, self.purses, list(self.purses), tuple(moves), tuple(self.told),
                [(part.text, limit) for part, limit in self.row])


class PlayTest(unittest.TestCase):
    def raises(self, error, fields, call, *arguments):
        with self.assertRaises(error) as caught:
            call(*arguments)
        self.assertEqual(vars(caught.exception), fields)


class Creation(PlayTest):
    def test_the_example_of_the_document(self):
        play = play_of("b[ab2], ba3", a=5, b=0)
        self.assertIsNone(play.move(("rounds", 2)))
        self.assertEqual((play.turn, play.purses(), play.row()[0][1]), ("b", {"a": 3, "b": 2}, 1))
        play.move(("rounds", 0))
        self.assertEqual((play.turn, play.outcome, play.loser, play.happened()), ("over", "failed", "b", ("ab2",)))

    def test_errors_in_their_order(self):
        pact = parse_pact("ab1, c[d(ef1 | .)]")
        for value in (None, 3, "ab1", pact.parts, pact.parts[0], [pact]):
            self.raises(BadPart, {"value": value}, Play, value, {"x": -1})
        purses = {"a": -5, "world": 3, "b": -7, "": 1}
        self.raises(BadParty, {"party": "world"}, Play, pact, purses)
        for party in ("", "g", "A", "ab", " ", "1"):
            self.raises(BadParty, {"party": party}, Play, pact, {"a": -1, party: 1})
        self.raises(BadAmount, {"value": -7}, Play, pact, {"a": 1, "b": -7, "c": -8})
        self.raises(BadAmount, {"value": -1}, Play, parse_pact("."), {"f": -1})
        for missing in "abcdef":
            self.raises(NoPurse, {"party": missing}, Play, pact, {party: 0 for party in "fedcba" if party != missing})
        self.raises(NoPurse, {"party": "a"}, Play, pact, {})
        self.raises(NoPurse, {"party": "d"}, Play, pact, {"c": 1, "a": 1, "b": 1, "f": 1})
        self.assertEqual(purses, {"a": -5, "world": 3, "b": -7, "": 1})

    def test_parties_that_are_named_anywhere_need_a_purse(self):
        for text, party in (("0(ab1)", "a"), ("D, a(. | .)", "a"), ("[E, 2(b[.])]", "b"), ("f(. | a(. | 0(cb0)))", "a"),
                            ("cd1", "c")):
            self.raises(NoPurse, {"party": party}, Play, parse_pact(text), {})
        self.assertEqual(play_of("0(D), E").outcome, "done")

    def test_purses_are_copied_and_keep_their_order(self):
        purses = {"f": 3, "b": 0, "a": HUGE}
        play = Play(parse_pact("a[ab1]"), purses)
        purses["a"] = 0
        self.assertEqual((play.purses(), list(play.purses())), ({"f": 3, "b": 0, "a": HUGE}, ["f", "b", "a"]))
        told = play.purses()
        told["a"] = 1
        self.assertEqual(play.coins("a"), HUGE)
        self.assertEqual(play.coins("f"), 3)

    def test_coins(self):
        play = play_of("D", b=4)
        self.assertEqual(play.coins("b"), 4)
        self.raises(NoPurse, {"party": "a"}, play.coins, "a")
        for party in ("", "g", "ab", "B", "world"):
            self.raises(BadParty, {"party": party}, play.coins, party)

    def test_plays_without_moves(self):
        self.assertEqual(state(play_of(".")), ("over", "done", None, {}, [], (), (), []))
        self.assertEqual(state(play_of("0(ab1), D, 2(ba1, E)", a=0, b=2)),
                         ("over", "done", None, {"a": 2, "b": 0}, ["a", "b"], (), ("D", "ba1", "E", "ba1", "E"), []))
        self.assertEqual(state(play_of("D, ab5, E", a=4, b=0)),
                         ("over", "failed", "a", {"a": 4, "b": 0}, ["a", "b"], (), ("D",), [("ab5", None), ("E", None)]))
        self.assertEqual(play_of("ab0, ab5", a=5, b=0).purses(), {"a": 0, "b": 5})
        self.assertEqual(play_of("ab1", a=HUGE, b=HUGE).purses(), {"a": HUGE - 1, "b": HUGE + 1})

    def test_what_waits_for_a_move(self):
        for text, turn in (("a(. | D)", "a"), ("c[.]", "c"), ("[.]", "world"), ("D, 3(b[D])", "b")):
            play = play_of(text, a=0, b=0, c=0)
            self.assertEqual((play.turn, play.outcome, play.loser, play.moves()), (turn, None, None, ()))

    def test_thousands_of_members_between_two_moves(self):
        play = play_of("2(100(100(.))), a[100(.), ab0]", a=0, b=0)
        self.assertEqual(play.turn, "a")
        play.move(("rounds", 200))
        for left in range(199, 0, -1):
            play.move(("rounds", left))
        self.assertEqual((play.outcome, len(play.happened()), len(play.moves())), ("done", 200, 200))


class Moves(PlayTest):
    def test_choices(self):
        play = play_of("a(D | E, ab1 | .), F", a=3, b=0)
        self.assertEqual([(part.KIND, limit) for part, limit in play.row()], [("choice", None), ("event", None)])
        other = play.twin()
        play.move(("take", 1))
        other.move(("take", 2))
        self.assertEqual((play.happened(), other.happened(), play.moves()), (("E", "ab1", "F"), ("F",), (("take", 1),)))

    def test_rounds(self):
        play = play_of("a[D], E", a=0)
        play.move(("rounds", 3))
        self.assertEqual([(part.text, limit) for part, limit in play.row()], [("a[D]", 2), ("E", None)])
        self.raises(BadMove, {"value": ("rounds", 3)}, play.move, ("rounds", 3))
        play.move(("rounds", 1))
        # Rounds with the limit 0 end without a move.
        self.assertEqual((play.turn, play.outcome, play.happened()), ("over", "done", ("D", "D", "E")))
        play = play_of("a[D], E", a=0)
        play.move(("rounds", 10 ** 300))
        self.assertEqual(play.row()[0][1], 10 ** 300 - 1)
        play.move(("rounds", 0))
        self.assertEqual((play.outcome, play.happened()), ("done", ("D", "E")))

    def test_rounds_in_rounds(self):
        play = play_of("a[b[D], E]", a=0, b=0)
        for move in (("rounds", 2), ("rounds", 1), ("rounds", 1), ("rounds", 0)):
            play.move(move)
        self.assertEqual((play.outcome, play.happened()), ("done", ("D", "E", "E")))

    def test_endless_rounds(self):
        play = play_of("[D], E")
        self.assertEqual(play.turn, "world")
        play.move(("rounds", 2))
        self.raises(BadMove, {"value": ("rounds", 2)}, play.move, ("rounds", 2))
        other = play.twin()
        play.move(("rounds", 1))
        # The member stays, with the limit that it had.
        self.assertEqual((play.turn, play.outcome, play.happened()), ("over", "cut", ("D", "D")))
        self.assertEqual([(part.text, limit) for part, limit in play.row()], [("[D]", 0), ("E", None)])
        other.move(("rounds", 0))
        self.assertEqual((other.outcome, other.happened(), other.row()[0][1]), ("cut", ("D",), 1))
        third = play_of("[D], E")
        third.move(("rounds", 0))
        self.assertEqual((third.outcome, third.loser, third.happened(), third.row()[0][1]), ("cut", None, (), None))

    def test_times_under_way(self):
        play = play_of("3(a[D], E), F", a=0)
        self.assertEqual([part.text for part, _ in play.row()], ["a[D]", "E", "2(a[D], E)", "F"])
        play.move(("rounds", 0))
        play.move(("rounds", 0))
        self.assertEqual([part.text for part, _ in play.row()], ["a[D]", "E", "F"])
        self.assertEqual([limit for _, limit in play.row()], [None] * 3)
        self.assertIs(type(play.row()), tuple)

    def test_refused_moves(self):
        choice, rounds = play_of("a(D | E)", a=0), play_of("a[D]", a=0)
        rounds.move(("rounds", 5))
        wrong = [None, 0, "take", (), ("take",), ("take", 0, 0), ["take", 0], ["rounds", 0], ("give", 0), ("TAKE", 0),
                 ("take", -1), ("take", 2), ("rounds", -1), ("rounds", 5), ("take", "0"), ("take", None), (0, "take"),
                 (0, 0), (None, 0), ("take", (0,)), ("", 0), "t0", {"take": 0}, (("take", 0),), ("rounds", None), ("take", [])]
        for play, bad in ((choice, wrong + [("rounds", 0)]), (rounds, wrong + [("take", 0), ("rounds", 10 ** 100)])):
            before = state(play)
            for move in bad:
                self.raises(BadMove, {"value": move}, play.move, move)
            self.assertEqual(state(play), before)
        choice.move(("take", 0))
        for move in (("take", 0), None):
            self.raises(PlayOver, {}, choice.move, move)
        self.raises(PlayOver, {}, play_of(".").move, ("rounds", 0))

    def test_undo(self):
        play = play_of("a[ab2], ba3", a=5, b=0)
        self.raises(NoMoves, {}, play.undo)
        states = [state(play)]
        for move in (("rounds", 7), ("rounds", 6), ("rounds", 1)):
            play.move(move)
            states.append(state(play))
        self.assertEqual((play.outcome, play.loser), ("failed", "a"))
        for before in states[-2::-1]:
            self.assertIsNone(play.undo())
            self.assertEqual(state(play), before)
        self.raises(NoMoves, {}, play.undo)
        self.assertEqual(state(play), states[0])
        self.raises(NoMoves, {}, play_of("D").undo)

    def test_twins_are_independent(self):
        play = play_of("a[ab1, D]", a=9, b=0)
        play.move(("rounds", 5))
        play.move(("rounds", 4))
        twin = play.twin()
        self.assertEqual(state(twin), state(play))
        before = state(play)
        twin.undo()
        earlier = state(twin)
        twin.move(("rounds", 2))
        twin.move(("rounds", 1))
        self.assertEqual(state(play), before)
        play.undo()
        self.assertEqual(state(play), earlier)
        play.move(("rounds", 0))
        self.assertEqual((twin.happened(), play.happened()), (("ab1", "D") * 3, ("ab1", "D")))
        for _ in range(3):
            twin.undo()
        self.assertEqual(twin.purses(), {"a": 9, "b": 0})
        self.assertEqual(play.purses(), {"a": 8, "b": 1})

    def test_random_plays(self):
        chance = random.Random(7)
        outcomes = {}
        for _ in range(1500):
            pact = some_pact(chance, chance.randint(1, 25))
            purses = {party: chance.randint(0, 12) for party in "cabf"}
            play = Play(pact, purses)
            states = [state(play)]
            while play.turn != "over" and len(states) < 30:
                play.move(chance.choice(moves_here(play, 3)))
                moves = play.moves()
                self.assertEqual(state(play), PlainPlay(pact, purses, moves).state(moves))
                states.append(state(play))
            self.assertEqual(states[0], PlainPlay(pact, purses, []).state(()))
            outcomes[play.outcome] = outcomes.get(play.outcome, 0) + 1
            for before in states[-2::-1]:
                play.undo()
                self.assertEqual(state(play), before)
        self.assertTrue(all(outcomes[end] > 50 for end in ("done", "cut", "failed")), outcomes)


if __name__ == "__main__":
    unittest.main()
