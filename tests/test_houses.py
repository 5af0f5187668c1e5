import copy
import random
import unittest

from signedpacts.cases import Case
from signedpacts.drafts import Draft
from signedpacts.errors import (BadAmount, BadClause, BadDeed, BadMove, BadPair, BadPaper, BadParty, BadText, HouseError, Missing,
                                NameTaken, NoDebt, NoPact, NoPurse, NothingToRedo, NothingToUndo, PlayOver, SameLabel,
                                ShortPurse, TooLarge, WrongTurn)
from signedpacts.houses import House, replay
from tests.plain_debts import NO_PAIRS
from tests.plain_drafts import NO_CLAUSES
from tests.plain_houses import PlainHouse, some_deed, told_by_house, told_by_plain
from tests.raising import Raising

NO_PARTIES = ("", "g", "A", "ab", "world")


def clause(number, text, behind=None):
    return "amend", ("add", (number, "a"), None if behind is None else (behind, "a"), text)


def house_with(purses, *deeds):
    return replay(purses, deeds)


class HouseTest(Raising):
    def refuses(self, house, error, fields, deed):
        """Fails unless the deed raises the error and changes nothing, not even what can be done again."""
        before = told_by_house(house)
        raised = self.raises(error, fields, house.do, deed)
        self.assertEqual(told_by_house(house), before)
        return raised


class Beginnings(HouseTest):
    def test_an_empty_house(self):
        house = House({"c": 5, "a": 0})
        self.assertEqual(told_by_house(house), {
            "purses": [("c", 5), ("a", 0)], "debts": [], "draft": (), "case": ((), (), ()), "deeds": (), "struck": (),
            "fallen": (), "plays": [], "worths": {"c": 5, "a": 0}})
        self.assertEqual((house.draft(), type(house.case()), House({}).purses()), (Draft([]), Case, {}))

    def test_errors_of_purses(self):
        for party in NO_PARTIES:
            self.raises(BadParty, {"party": party}, House, {"a": -1, party: 1})
            self.raises(BadParty, {"party": party}, replay, {"a": -1, party: 1}, [("sign", "x")])
        self.raises(BadAmount, {"value": -2}, House, {"b": 0, "a": -2, "c": -1})

    def test_later_changes_of_purses_and_results(self):
        purses = {"a": 3, "b": 0}
        house = house_with(purses, clause(1, "ab5"), ("sign", "x"))
        before = told_by_house(house)
        purses["a"] = 100
        house.purses()["a"] = 7
        house.debts()["ab"] = 7
        house.do(("rule",))
        self.assertEqual(told_by_house(house), {**before, "deeds": house.deeds()})
        house.undo()
        self.assertEqual(told_by_house(house), before)


class Amending(HouseTest):
    def test_amendments(self):
        house = house_with({}, clause(1, "ab5"), clause(2, "D", 1), ("amend", ["change", [3, "b"], [[1, "a"]], "E"]),
                           ["amend", ("strike", (4, "b"), (2, "a"))])
        self.assertEqual((house.draft().pact().text, house.deeds()[2]),
                         ("E", ("amend", ("change", (3, "b"), ((1, "a"),), "E"))))
        # The same amendment once more: the deed is in the book all the same.
        before = house.draft()
        house.do(clause(1, "ab5"))
        self.assertEqual((house.draft(), len(house.deeds())), (before, 5))

    def test_errors(self):
        house = house_with({"a": 1}, clause(1, "D"))
        self.refuses(house, SameLabel, {"label": (1, "a")}, clause(1, "E"))
        self.refuses(house, Missing, {"label": (3, "a")}, clause(3, "E", 2))
        self.refuses(house, Missing, {"label": (3, "a")}, ("amend", ("change", (3, "a"), ((2, "a"),), "no pact")))
        self.refuses(house, Missing, {"label": (1, "A")}, ("amend", ("strike", (1, "A"), (1, "a"))))
        for text in NO_CLAUSES:
            error = self.refuses(house, BadClause, {"label": (2, "b")}, ("amend", ("add", (2, "b"), None, text)))
            self.assertIsInstance(error.__cause__, BadText)


class Plays(HouseTest):
    def test_transfers_are_paid_or_owed(self):
        house = house_with({"a": 3, "b": 0}, clause(1, "ab5, D"), ("sign", "lease"))
        self.assertEqual((house.purses(), house.debts(), house.happened("lease"), house.worth("b"), house.worth("a")),
                         ({"a": 3, "b": 0}, {"ab": 5}, ("ab5", "D"), 5, -2))
        # Just enough coins are enough, and what is owed grows.
        house = house_with({"b": 0, "a": 9}, clause(1, "ab5, ab4, ab1, ab2, ab0, ba9, ab8"), ("sign", "x"))
        self.assertEqual((house.purses(), house.debts()), ({"b": 8, "a": 1}, {"ab": 3}))

    def test_moves(self):
        house = house_with({"a": 2, "b": 0}, clause(1, "a[ab1], b(D | [ba1])"), ("sign", "x"))
        self.assertEqual((house.turn_of("x"), house.happened("x")), ("a", ()))
        house.do(("move", "x", "a", ("rounds", 3)))
        self.assertEqual((house.turn_of("x"), house.happened("x")), ("a", ("ab1",)))
        house.do(["move", "x", "a", ("rounds", 2)])
        house.do(("move", "x", "a", ("rounds", 1)))
        self.assertEqual((house.turn_of("x"), house.purses(), house.debts()), ("b", {"a": 0, "b": 2}, {"ab": 1}))
        house.do(("move", "x", "b", ("take", 1)))
        house.do(("move", "x", "world", ("rounds", 7)))
        house.do(("move", "x", "world", ("rounds", 0)))
        self.assertEqual((house.turn_of("x"), house.happened("x")), ("over", ("ab1",) * 3 + ("ba1",)))
        self.refuses(house, PlayOver, {}, ("move", "x", "a", ("take", 0)))

    def test_ends_of_endless_rounds(self):
        house = house_with({"a": 0}, clause(1, "[D], E"), ("sign", "x"), ("move", "x", "world", ("rounds", 2)),
                           ("move", "x", "world", ("rounds", 1)))
        # With the limit 0 they end without a move.
        self.assertEqual((house.turn_of("x"), house.happened("x")), ("over", ("D", "D")))
        house = house_with({}, clause(1, "."), ("sign", "x"))
        self.assertEqual((house.turn_of("x"), house.happened("x"), house.signed_names()), ("over", (), ("x",)))

    def test_a_signed_pact_stays_as_it_is(self):
        house = house_with({"a": 5, "b": 5}, clause(1, "a(D | E)"), ("sign", "one"), clause(2, "ab1"), ("sign", "two"),
                           ("amend", ("strike", (3, "a"), (1, "a"))), ("sign", "three"))
        self.assertEqual([house.turn_of(name) for name in house.signed_names()], ["a", "a", "over"])
        house.do(("move", "one", "a", ("take", 1)))
        self.assertEqual([house.happened(name) for name in ("one", "two", "three")], [("E",), ("ab1",), ("ab1",)])
        self.assertEqual((house.signed_names(), house.purses()), (("one", "two", "three"), {"a": 3, "b": 7}))

    def test_errors_of_signing(self):
        house = house_with({"a": 1, "c": 0}, clause(1, "a(D | E)"), ("sign", "x"))
        heavy = replay({"a": 1, "c": 0}, [*house.deeds(), *(clause(at, "100(eb1)") for at in range(2, 6))])
        self.refuses(heavy, NameTaken, {"name": "x"}, ("sign", "x"))
        self.refuses(heavy, TooLarge, {"weight": 407, "depth": 2}, ("sign", "y"))
        heavy.undo()
        self.refuses(heavy, NoPurse, {"party": "b"}, ("sign", "y"))
        for text, party in (("d[D]", "d"), ("cf0", "f"), ("a(. | [fb1])", "b")):
            self.refuses(house_with({"a": 1, "c": 0}, clause(1, text)), NoPurse, {"party": party}, ("sign", "y"))

    def test_errors_of_moves(self):
        house = house_with({"a": 1, "b": 0}, clause(1, "a(D | E), [E]"), ("sign", "x"))
        self.refuses(house, NoPact, {"name": "y"}, ("move", "y", "zz", ("take", 9)))
        for mover in ("b", "f", "world", "over", "zz", "", "ab"):
            self.refuses(house, WrongTurn, {}, ("move", "x", mover, ("take", 9)))
        for move in (("take", 2), ("take", -1), ("rounds", 0), ("take",), ("take", 0, 0), (0, "take")):
            self.refuses(house, BadMove, {"value": move}, ("move", "x", "a", move))
        house.do(("move", "x", "a", ("take", 0)))
        self.refuses(house, WrongTurn, {}, ("move", "x", "a", ("take", 0)))
        house.do(("move", "x", "world", ("rounds", 0)))
        for mover in ("world", "over", "zz"):
            self.refuses(house, PlayOver, {}, ("move", "x", mover, ("rounds", 0)))
        for call in (house.turn_of, house.happened):
            self.raises(NoPact, {"name": "nobody"}, call, "nobody")


class Paying(HouseTest):
    def setUp(self):
        self.house = house_with({"a": 3, "b": 0, "c": 9}, clause(1, "ab5, bc1, ca2, ab7"), ("sign", "x"))

    def test_debts_are_paid(self):
        house = self.house
        self.assertEqual((house.purses(), house.debts()), ({"a": 5, "b": 0, "c": 7}, {"ab": 12, "bc": 1}))
        house.do(("pay", "ab", 2))
        house.do(["pay", "bc", 1])
        self.assertEqual((house.purses(), list(house.debts().items())), ({"a": 3, "b": 1, "c": 8}, [("ab", 10)]))
        self.assertEqual([house.worth(party) for party in "abc"], [-7, 11, 8])

    def test_no_coins_without_a_debt(self):
        before = self.house.purses(), self.house.debts()
        for pair in ("ca", "bc", "ab"):
            self.house.do(("pay", pair, 0))
        self.assertEqual((self.house.purses(), self.house.debts(), len(self.house.deeds())), (*before, 5))

    def test_set_off(self):
        house = house_with({"a": 0, "b": 0, "c": 0}, clause(1, "ab5, bc3, ca2"), ("sign", "x"), ("set off",))
        self.assertEqual(house.debts(), {"ab": 3, "bc": 1})
        self.assertEqual([house.worth(party) for party in "abc"], [-3, 2, 1])
        house = house_with({}, ["set off"], ("set off",))
        self.assertEqual((house.debts(), house.deeds()), ({}, (("set off",), ("set off",))))

    def test_errors_in_their_order(self):
        for pair in NO_PAIRS:
            self.refuses(self.house, BadPair, {"pair": pair}, ("pay", pair, -1))
        for pair in ("ab", "fd"):
            self.refuses(self.house, BadAmount, {"value": -1}, ("pay", pair, -1))
        for pair, party in (("fd", "f"), ("ad", "d"), ("da", "d"), ("df", "d")):
            self.refuses(self.house, NoPurse, {"party": party}, ("pay", pair, 10 ** 60))
        for pair, coins in (("ab", 13), ("ba", 1), ("ac", 10 ** 60), ("bc", 2)):
            self.refuses(self.house, NoDebt, {"pair": pair}, ("pay", pair, coins))
        self.refuses(self.house, ShortPurse, {"party": "a"}, ("pay", "ab", 6))
        self.refuses(self.house, ShortPurse, {"party": "b"}, ("pay", "bc", 1))
        self.house.do(("pay", "ab", 5))

    def test_errors_of_worths(self):
        for party in NO_PARTIES:
            self.raises(BadParty, {"party": party}, self.house.worth, party)
        self.raises(NoPurse, {"party": "f"}, self.house.worth, "f")


class Undoing(HouseTest):
    def test_sixty_deeds_done_and_taken_back(self):
        chance = random.Random(161)
        house, told = House({"a": 4, "b": 2, "c": 0}), []
        while len(house.deeds()) < 60:
            before = told_by_house(house)
            try:
                house.do(some_deed(chance, house))
                told.append(before)
            except HouseError:
                self.assertEqual(told_by_house(house), before)
        last = told_by_house(house)
        self.assertGreater(len({deed[0] for deed in house.deeds()}), 5)
        for before in told[::-1]:
            self.assertIsNone(house.undo())
            self.assertEqual(told_by_house(house), before)
        self.raises(NothingToUndo, {}, house.undo)
        for before in [*told[1:], last]:
            self.assertIsNone(house.redo())
            self.assertEqual(told_by_house(house), before)
        self.raises(NothingToRedo, {}, house.redo)
        self.assertEqual(told_by_house(replay({"a": 4, "b": 2, "c": 0}, last["deeds"])), last)

    def test_deeds_that_are_forgotten(self):
        house = house_with({"a": 1, "b": 1}, clause(1, "ab1"), ("sign", "x"), ("rule",))
        for _ in range(2):
            house.undo()
        # A deed that raises an error does not forget what was taken back.
        self.raises(NoPact, {"name": "y"}, house.do, ("move", "y", "a", ("take", 0)))
        house.redo()
        self.assertEqual(house.signed_names(), ("x",))
        house.undo()
        self.assertIsNone(house.do(("set off",)))
        self.raises(NothingToRedo, {}, house.redo)
        house.undo()
        house.redo()
        self.assertEqual(house.deeds()[1:], (("set off",),))

    def test_rulings_are_taken_back(self):
        house = house_with({"a": 1, "b": 1}, clause(1, "ab1"), ("sign", "x"), ("paper", 0, [], [], 1))
        before = told_by_house(house)
        house.do(("rule",))
        self.assertEqual((house.struck(), house.signed_names(), house.purses()), ((1,), (), {"a": 1, "b": 1}))
        house.undo()
        self.assertEqual((told_by_house(house), house.struck()), (before, ()))


class Rulings(HouseTest):
    def test_struck_and_fallen(self):
        house = house_with({"a": 5, "b": 0}, clause(1, "a[ab2]"), ("sign", "x"), ("move", "x", "a", ("rounds", 2)),
                           ("move", "x", "a", ("rounds", 1)), ("paper", 0, [], [], 2), ("rule",))
        # Without the first move the second one names another number of rounds, and can be made all the same.
        self.assertEqual((house.struck(), house.fallen(), house.happened("x"), house.purses()),
                         ((2,), (), ("ab2",), {"a": 3, "b": 2}))
        house.do(("paper", 0, [], [], 1))
        house.do(("rule",))
        self.assertEqual((house.struck(), house.fallen(), house.signed_names(), house.purses()),
                         ((1, 2), (3,), (), {"a": 5, "b": 0}))
        self.assertEqual(len(house.deeds()), 8)
        # Deeds that were left out are done anew behind the ruling.
        house.do(("sign", "x"))
        self.assertEqual((house.turn_of("x"), house.struck(), house.fallen()), ("a", (1, 2), (3,)))

    def test_a_struck_deed_stands_again(self):
        house = house_with({"a": 5, "b": 0}, clause(1, "ab2"), ("sign", "x"), ("amend", ("change", (2, "b"), ((1, "a"),), "ab3")),
                           ("sign", "y"), ("paper", 0, [], [], 0), ("rule",))
        # Without the clause the change has nothing to change, and two empty pacts are signed.
        self.assertEqual((house.struck(), house.fallen(), house.signed_names(), house.purses()),
                         ((0,), (2,), ("x", "y"), {"a": 5, "b": 0}))
        self.refuses(house, Missing, {"label": (2, "b")}, ("amend", ("change", (2, "b"), ((1, "a"),), "ab3")))
        house.do(("paper", 0, [0], [], None))
        self.assertEqual((house.case().ruling(), house.struck()), (("refused", "upheld"), (0,)))
        house.do(("rule",))
        self.assertEqual((house.struck(), house.fallen(), house.happened("y"), house.purses()),
                         ((), (), ("ab3",), {"a": 0, "b": 5}))

    def test_papers_that_do_not_count(self):
        purses = {"a": 5, "b": 0}
        deeds = [clause(1, "ab2"), ("sign", "x")]
        for papers, struck in (([("paper", 0, [0], [], 1)], ()), ([("paper", 0, [], [], None)], ()),
                               ([("paper", 0, [], [], 1), ("paper", 0, [], [], 1)], (1,)),
                               ([("paper", 0, [], [], 1), ("paper", 0, [0], [], None)], ()),
                               ([("paper", 0, [], [], 1), ("paper", -1, [0], [], None)], (1,)),
                               ([("paper", 0, [], [], 0), ("paper", 5, [0], [], 1), ("paper", 5, [1], [], None)], (0,)),
                               ([("paper", 0, [0], [0], 1)], ())):
            house = replay(purses, [*deeds, *papers])
            self.assertEqual((house.struck(), house.happened("x")), ((), ("ab2",)))
            house.do(("rule",))
            self.assertEqual((house.struck(), house.fallen(), "x" in house.signed_names()), (struck, (), 1 not in struck))
        # A paper behind the ruling strikes nothing.
        house = replay(purses, [*deeds, ("rule",), ("paper", 0, [], [], 1)])
        self.assertEqual((house.struck(), house.case().ruling()), ((), ("upheld",)))

    def test_papers_and_earlier_rulings_do_nothing(self):
        house = house_with({"a": 0, "b": 0}, clause(1, "ab5, ba3"), ("sign", "x"), ("paper", 0, [], [], None), ("rule",),
                           ("paper", 0, [0], [0], None), ("rule",), ("rule",))
        self.assertEqual((house.debts(), house.fallen(), house.struck()), ({"ab": 5, "ba": 3}, (), ()))
        self.assertEqual((len(house.case().ranks), len(house.deeds())), (2, 7))
        # What was set off before a ruling is set off again, unless it is struck.
        house = house_with({"a": 0, "b": 0}, clause(1, "ab5, ba3"), ("sign", "x"), ("set off",), ("rule",))
        self.assertEqual(house.debts(), {"ab": 2})
        house.do(("paper", 0, [], [], 2))
        house.do(("rule",))
        self.assertEqual((house.debts(), house.struck()), ({"ab": 5, "ba": 3}, (2,)))

    def test_deeds_that_were_left_out_can_be_contested(self):
        house = house_with({"a": 5, "b": 0}, clause(1, "ab2"), ("sign", "x"), ("paper", 0, [], [], 0), ("rule",),
                           ("paper", 0, [], [], 0), ("paper", 0, [], [], 1), ("rule",))
        self.assertEqual((house.struck(), house.fallen(), house.signed_names()), ((0, 1), (), ()))

    def test_payments_that_fall_and_stand_again(self):
        change = ("amend", ("change", (2, "a"), ((1, "a"),), "ba1"))
        house = house_with({"a": 1, "b": 0}, clause(1, "ab1, ab1"), ("sign", "x"), change, ("sign", "y"), ("pay", "ab", 1),
                           ("paper", 0, [], [], 3), ("rule",))
        # At the second signing a got the coin back with which it paid.
        self.assertEqual((house.struck(), house.fallen(), house.debts(), house.purses()), ((3,), (4,), {"ab": 1}, {"a": 0, "b": 1}))
        house.do(("paper", 0, [0], [], None))
        house.do(("rule",))
        self.assertEqual((house.struck(), house.fallen(), house.debts(), house.purses()), ((), (), {}, {"a": 0, "b": 1}))

    def test_errors_of_papers(self):
        house = house_with({"a": 1, "b": 1}, clause(1, "ab1"), ("sign", "x"), ("paper", 0, [], [], 1), ("rule",), ("set off",))
        for answering, answered_by, number in (([2], [3], 2), ([0, -1], [], -1), ([1], [2], 2)):
            self.refuses(house, BadPaper, {"number": number}, ("paper", 0, answering, answered_by, 99))
        for number in (-1, 5, 2, 3, 10 ** 60):
            self.refuses(house, BadDeed, {"number": number}, ("paper", 0, [1], [0, 1], number))
        for number in (0, 1, 4, None):
            house.do(("paper", -1, [0], [], number))
        self.assertEqual(house.deeds()[-1], ("paper", -1, (0,), (), None))
        house.do(["paper", 7, [5], [0], 1])
        self.assertEqual((house.case().ranks, house.case().answers[-2:]), ((0, -1, -1, -1, -1, 7), ((5, 5), (0, 5))))


class ByChance(HouseTest):
    def test_against_a_plain_house(self):
        chance = random.Random(162)
        seen = {}
        for _ in range(60):
            purses = {party: chance.choice([0, 1, 3, 10]) for party in chance.sample("abcd", chance.choice([2, 3, 4]))}
            house, plain = House(purses), PlainHouse(purses)
            for _ in range(60):
                deed, errors = some_deed(chance, house), []
                given = copy.deepcopy(deed)
                for one in (house, plain):
                    try:
                        one.do(deed)
                        errors.append(None)
                    except HouseError as error:
                        errors.append((type(error), vars(error)))
                self.assertEqual(errors[0], errors[1], deed)
                self.assertEqual((told_by_house(house), deed), (told_by_plain(plain), given))
                seen[(deed[0], errors[0] and errors[0][0])] = True
                seen["struck"] = seen.get("struck", 0) + (errors[0] is None and len(house.struck()))
                seen["fallen"] = seen.get("fallen", 0) + (errors[0] is None and len(house.fallen()))
        self.assertGreater(len(seen), 22)
        self.assertGreater(min(seen["struck"], seen["fallen"]), 100)

    def test_replay(self):
        purses = {"a": 5, "b": 0}
        deeds = [clause(1, "ab2"), ["sign", "x"], ("paper", 0, [], [], 1), ("rule",)]
        before = copy.deepcopy(deeds)
        house = replay(purses, tuple(deeds))
        self.assertEqual((house.struck(), house.deeds()[1], deeds, purses), ((1,), ("sign", "x"), before, {"a": 5, "b": 0}))
        self.assertEqual(told_by_house(replay(purses, house.deeds())), told_by_house(house))
        self.assertEqual(told_by_house(replay(purses, [])), told_by_house(House(purses)))
        self.raises(NameTaken, {"name": "x"}, replay, purses, [*deeds[:2], ("sign", "x"), ("pay", "gg", 0)])
        self.raises(NothingToRedo, {}, replay(purses, deeds).redo)

    def test_great_purses(self):
        house = house_with({"a": 10 ** 100, "b": 10 ** 100 - 1}, clause(1, f"100(ab{10 ** 60}), ba1"), ("sign", "x"))
        self.assertEqual(house.purses(), {"a": 10 ** 100 - 10 ** 62 + 1, "b": 10 ** 100 + 10 ** 62 - 2})
        house = house_with({"a": 10 ** 60 - 1, "b": 0}, clause(1, f"3(ab{10 ** 60})"), ("sign", "x"))
        self.assertEqual((house.debts(), house.worth("a")), ({"ab": 3 * 10 ** 60}, -2 * 10 ** 60 - 1))


if __name__ == "__main__":
    unittest.main()
