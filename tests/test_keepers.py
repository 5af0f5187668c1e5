import random
import unittest

from signedpacts.errors import BadAmount, BadParty, Hopeless, PlayOver, WrongTurn
from signedpacts.keepers import Breaker, Keeper
from signedpacts.notation import parse_pact
from signedpacts.plays import Play
from signedpacts.purses import least_purse
from tests.plain_pacts import RICH, ends_of, gets_through, moves_here, rich_play, some_pact

NO_PARTIES = ("", "g", "A", "ab", "world")


def play_of(text, a, **more):
    return rich_play(parse_pact(text), a=a, **more)


class KeeperTest(unittest.TestCase):
    def raises(self, error, fields, call, *arguments, **more):
        with self.assertRaises(error) as caught:
            call(*arguments, **more)
        self.assertEqual(vars(caught.exception), fields)


class Answers(KeeperTest):
    def test_the_example_of_the_document(self):
        self.assertEqual(Keeper("a").move(Play(parse_pact("a[ab2, ba5], ab7"), {"a": 2, "b": 50})), ("rounds", 2))

    def test_choices(self):
        text = "a(ab5 | ab3 | ba1), ab2"
        self.assertEqual([Keeper("a").move(play_of(text, coins)) for coins in (1, 5, 7)], [("take", 2), ("take", 1), ("take", 0)])
        self.assertEqual(Keeper("a", needed=2).move(play_of(text, 3)), ("take", 2))
        text = "b(ab5 | ab3 | ba1), ab2"
        self.assertEqual([Breaker("a").move(play_of(text, coins)) for coins in (0, 6)], [("take", 0)] * 2)
        self.assertEqual(Breaker("a").move(play_of("b(ba1 | ab3 | ab5), ab2", 4)), ("take", 1))
        self.assertEqual(Breaker("a").move(play_of("b(ba1 | ab3 | ab5), ab2", 6)), ("take", 2))
        self.assertEqual(Breaker("a", needed=1).move(play_of("b(ba1 | .)", 0)), ("take", 1))

    def test_rounds(self):
        self.assertEqual(Keeper("a").move(play_of("a[ba3], ab9", 9)), ("rounds", 0))
        self.assertEqual(Keeper("a").move(play_of("a[ba3], ab9", 2)), ("rounds", 3))
        self.assertEqual(Keeper("a").move(play_of(f"a[ba3], ab{10 ** 60}", 1)), ("rounds", (10 ** 60 - 1 + 2) // 3))
        self.assertEqual(Breaker("a").move(play_of("b[ab3]", 7)), ("rounds", 3))
        self.assertEqual(Breaker("a").move(play_of("b[ab3], ab8", 7)), ("rounds", 0))
        self.assertEqual(Breaker("a").move(play_of("b[ab3]", 10 ** 200)), ("rounds", 10 ** 200 // 3 + 1))

    def test_endless_rounds(self):
        # What stands behind endless rounds counts for nothing.
        self.assertEqual(Breaker("a").move(play_of("[ab3], ab50", 7)), ("rounds", 3))
        self.assertEqual(Breaker("a", needed=None).move(play_of("[ab1]", 0)), ("rounds", 1))
        self.raises(Hopeless, {"least": 3}, Breaker("a", needed=None).move, play_of("[ab3, ba3], ab50", 3))

    def test_no_end_is_needed(self):
        self.assertEqual(Keeper("a", needed=None).move(play_of("a(. | [.])", 0)), ("take", 1))
        self.assertEqual(Keeper("a", needed=None).move(play_of("a[a[[ab4, ba4]]]", 4)), ("rounds", 1))
        self.raises(Hopeless, {"least": None}, Keeper("a", needed=None).move, play_of("a(. | D)", 10 ** 200))
        self.assertEqual(Breaker("a", needed=None).move(play_of("b[[.]]", 10 ** 200)), ("rounds", 0))

    def test_limits(self):
        for first, answer in ((5, ("rounds", 2)), (3, ("rounds", 2)), (2, None)):
            play = play_of("a[ba3, c[.]], ab9", 1)
            play.move(("rounds", first))
            play.move(("rounds", 0))
            self.assertEqual((play.coins("a"), play.row()[0][1]), (4, first - 1))
            if answer is None:
                self.raises(Hopeless, {"least": 6}, Keeper("a").move, play)
            else:
                self.assertEqual(Keeper("a").move(play), answer)
        play = play_of("b[ab3, c[.]]", 10)
        play.move(("rounds", 3))
        play.move(("rounds", 0))
        # The other side can take six more coins, and no more.
        self.raises(Hopeless, {"least": 6}, Breaker("a").move, play)
        self.assertEqual(Breaker("a", needed=2).move(play), ("rounds", 2))

    def test_errors_in_their_order(self):
        for player in (Keeper, Breaker):
            for party in NO_PARTIES:
                self.raises(BadParty, {"party": party}, player, party, needed=-1)
            self.raises(BadAmount, {"value": -1}, player, "a", needed=-1)
            self.raises(PlayOver, {}, player("a").move, play_of(".", 0))
            self.assertIs(type(player("a", needed=10 ** 300 - 1)), player)
        for text in ("b(ab1 | .)", "[ab1]", "c[.]"):
            self.raises(WrongTurn, {}, Keeper("a", needed=None).move, play_of(text, 0))
        self.raises(WrongTurn, {}, Breaker("a").move, play_of("a(ab1 | .)", 10))
        self.raises(Hopeless, {"least": 4}, Keeper("a").move, play_of("a[ab1], ab4", 3))
        self.raises(Hopeless, {"least": 4}, Breaker("a").move, play_of("b(ab4 | .)", 4))
        self.raises(Hopeless, {"least": 0}, Breaker("a").move, play_of("b(. | D)", 0))

    def test_the_play_is_not_changed(self):
        play = play_of("a[ba3], ab9", 2)
        before = (play.turn, play.moves(), play.purses(), play.row(), play.happened())
        for _ in range(2):
            self.assertEqual(Keeper("a").move(play), ("rounds", 3))
        self.assertEqual((play.turn, play.moves(), play.purses(), play.row(), play.happened()), before)


class Contests(KeeperTest):
    def contest(self, player, chance, is_for):
        """Plays one side with just as many coins as it can bear, and tries out the moves of the others."""
        ends = 0
        for _ in range(1500):
            pact, needed = some_pact(chance, chance.randint(2, 16), "ab"), chance.choice([0, 0, 1, 3, None])
            play = rich_play(pact)
            for _ in range(chance.randint(0, 3)):
                if play.turn != "over":
                    play.move(chance.choice(moves_here(play, 3)))
            if play.turn == "over":
                continue
            least = least_purse(play, "a", needed=needed)
            coins = least if is_for else 25 if least is None else least - 1
            if coins is None or coins < 0 or coins + RICH < play.coins("a"):
                continue
            here = rich_play(pact, a=coins + RICH - play.coins("a"))
            for move in play.moves():
                here.move(move) if here.turn != "over" else None
            if here.turn == "over":
                continue
            self.assertEqual(here.coins("a"), coins)
            side = player("a", needed=needed)
            for end in ends_of(here, lambda one: side.move(one) if (one.turn == "a") == is_for else None, 2, 60):
                self.assertEqual(gets_through(end, "a", needed), is_for, (pact.text, end.moves(), needed))
                ends += 1
        self.assertGreater(ends, 400)

    def test_keepers_get_through(self):
        self.contest(Keeper, random.Random(21), True)

    def test_breakers_stop_everyone(self):
        # The others are rich, so no other party fails.
        self.contest(Breaker, random.Random(22), False)

    def test_each_answer_is_the_least_one(self):
        chance = random.Random(23)
        seen = {True: 0, False: 0}
        for _ in range(1500):
            pact = some_pact(chance, chance.randint(2, 14), "ab")
            play = rich_play(pact, a=chance.randint(0, 9))
            if play.turn == "over":
                continue
            is_for = play.turn == "a"
            least = least_purse(play, "a", needed=1)
            if (least is not None and play.coins("a") >= least) != is_for:
                continue
            seen[is_for] += 1
            word, number = (Keeper if is_for else Breaker)("a", needed=1).move(play)
            for smaller in range(min(number, 20)):
                self.assertFalse(self.still_fine(play, (word, smaller), is_for))
            if number < 30:
                self.assertTrue(self.still_fine(play, (word, number), is_for))
        self.assertGreater(min(seen.values()), 50)

    def still_fine(self, play, move, is_for):
        """True if the side can still reach its aim after the move."""
        twin = play.twin()
        twin.move(move)
        if twin.turn == "over":
            return gets_through(twin, "a", 1) == is_for
        least = least_purse(twin, "a", needed=1)
        return (least is not None and twin.coins("a") >= least) == is_for


if __name__ == "__main__":
    unittest.main()
