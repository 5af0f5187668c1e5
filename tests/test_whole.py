"""What one part of the program promises of another one: equal results over two ways."""
import random
import unittest

from signedpacts.agreeing import agree
from signedpacts.balances import balance_row, balances
from signedpacts.books import read_deeds, write_deeds
from signedpacts.chains import Chain
from signedpacts.clearing import clear, purse_to_pay
from signedpacts.countsets import CountSet
from signedpacts.debts import net, owed
from signedpacts.deciders import Decider
from signedpacts.drafts import Draft
from signedpacts.errors import (BadClause, BadMove, BadText, CannotDecide, HouseError, NoChain, NoPurse, PlayOver, TooLarge,
                                WrongTurn)
from signedpacts.exchanges import Exchange, alike
from signedpacts.guards import can_guard
from signedpacts.histories import first_history, histories
from signedpacts.houses import House, replay
from signedpacts.least import least_set
from signedpacts.letters import grow
from signedpacts.losses import closed_states, passable, rounds_needed, swapped
from signedpacts.machines import Machine
from signedpacts.notation import parse_pact
from signedpacts.playgrammars import play_grammar
from signedpacts.plays import Play
from signedpacts.purses import least_purse, need_of
from signedpacts.runs import history_of, run_need, runs
from signedpacts.setoff import set_off
from signedpacts.under import balances_under
from tests.plain_debts import PARTIES, some_debts
from tests.plain_drafts import some_amendments
from tests.plain_duties import some_machine
from tests.plain_houses import some_deed
from tests.plain_notices import ENDS, FATES, some_rule
from tests.plain_pacts import moves_here, rich_play, some_pact
from tests.raising import Raising


class DebtsAndBalances(Raising):
    def test_what_is_owed_is_what_is_balanced(self):
        chance = random.Random(191)
        for _ in range(100):
            for _, told, _ in runs(some_pact(chance, 12), most=1):
                self.assertEqual(net(owed(told)), balance_row(told, parties=PARTIES, marks=""))

    def test_debts_that_were_set_off(self):
        chance = random.Random(192)
        for _ in range(200):
            debts = some_debts(chance)
            rest = set_off(debts)[0]
            self.assertEqual((net(rest), set_off(rest)[0]), (net(debts), rest))
            # With purses that are large enough everybody pays all, and each purse changes by what is owed altogether.
            rich = {party: 10 ** 200 for party in PARTIES}
            for one in (debts, rest):
                paid, waves = clear(one, rich)
                self.assertEqual((waves, sum(coins for coins, _ in paid.values())), ((), sum(one.values())))
            for party in PARTIES:
                self.assertEqual(purse_to_pay(rest, rich, party), max(0, -net(debts)[PARTIES.index(party)]))

    def test_a_duty_and_what_breaks_it(self):
        chance = random.Random(193)
        for _ in range(150):
            pact, duty = some_pact(chance, 20, "ab", "DE"), some_machine(chance, "DE")
            kept, broken = (balances_under(pact, one, parties="ab", marks="DE") for one in (duty, ~duty))
            whole = balances(pact, parties="ab", marks="DE")
            self.assertEqual(kept | broken, whole)
            self.assertEqual(whole, least_set(play_grammar(pact, parties="ab", marks="DE"), "pact"))
            self.assertEqual(kept == CountSet(4), first_history(pact, duty) is None)
            if first_history(pact, ~duty) is None:
                self.assertEqual((kept, can_guard(pact, "f", duty)), (whole, True))
            self.assertEqual(balances_under(pact, duty & ~duty, parties="ab", marks="DE"), CountSet(4))

    def test_purses_that_are_enough_for_a_run(self):
        chance = random.Random(194)
        for _ in range(100):
            pact = some_pact(chance, 12, "ab", "DE")
            need = need_of(pact, "a")
            if pact.text.count("a(") + pact.text.count("a[") == 0:
                found = [run_need(told, "a", needed=k) for k in (0, 3) for _, told, done in runs(pact, most=2) if done or k == 0]
                self.assertTrue(all(need(3) is None or least <= need(3) for least in found))
            play = rich_play(pact)
            if play.turn != "over":
                told = play.happened()
                rest = least_purse(play, "a", needed=3)
                self.assertEqual(need(3), run_need(told, "a", needed=rest))

    def test_histories_of_machines_and_runs(self):
        chance = random.Random(195)
        for _ in range(100):
            pact = some_pact(chance, 12, "ab", "DE")
            machine = histories(pact, letters="DE")
            self.assertTrue(all((history_of(told) in machine) >= done for _, told, done in runs(pact, most=1)))


class Letters(Raising):
    def test_sure_or_a_chain(self):
        chance = random.Random(196)
        seen = {True: 0, False: 0}
        for _ in range(200):
            rule = some_rule(chance, 8)
            needed, is_empty = rounds_needed(rule), not rule.unending().rows
            self.assertEqual(needed is None, 0 in closed_states(rule))
            for turned in (swapped(rule), rule.unending()):
                self.assertEqual((rounds_needed(turned), len(closed_states(turned))), (needed, len(closed_states(rule))))
            for rounds in range(6):
                is_chain = 0 in passable(rule, rounds=rounds)
                self.assertEqual(is_chain, not is_empty and (needed is None or rounds < needed))
                if is_chain:
                    self.raises(CannotDecide, {}, Decider, rule, rounds=rounds)
                    chain = Chain(rule, rounds=rounds)
                    self.assertTrue(any(alike(chain[0], chain[1], to=end) for end in ENDS))
                    # A rule and the swapped one have chains of the same length, from the other end.
                    self.assertEqual(Chain(swapped(rule), rounds=rounds).length, chain.length)
                else:
                    self.raises(NoChain, {}, Chain, rule, rounds=rounds)
                    self.assertEqual(Decider(rule, rounds=rounds).round_count, rounds)
                seen[is_chain] += 1
        self.assertGreater(min(seen.values()), 300)

    def test_agreeing_round_by_round(self):
        chance = random.Random(197)
        agreed = {True: 0, False: 0}
        for _ in range(300):
            rule = some_rule(chance, 6)
            needed, rows = rounds_needed(rule), rule.unending().rows
            if needed is None or not rows:
                continue
            wishes, state, fates = (chance.randint(0, 1), chance.randint(0, 1)), 0, ""
            views = [(wish, None, "", 0) for wish in wishes]
            for _ in range(needed):
                fate = chance.choice([fate for fate, entry in zip(FATES, rows[state]) if entry is not None])
                fates, state = fates + fate, rows[state][FATES.index(fate)]
                views = [grow("first", views[0], views[1] if fate in "bf" else None),
                         grow("second", views[1], views[0] if fate in "bs" else None)]
            self.assertEqual(views, [Exchange(*wishes, fates).seen(end) for end in ENDS])
            draft, more = Draft([]), ("add", (1, "a"), None, "D")
            for end, view, held in zip(ENDS, views, agree(rule, draft, more, wishes, fates)):
                self.assertEqual(held, Draft([more]) if Decider(rule)(end, view) else draft)
                agreed[held == draft] += 1
        self.assertGreater(min(agreed.values()), 30)

    def test_empty_rules_and_machines(self):
        empty = Machine(FATES, [])
        self.assertEqual((swapped(empty), passable(empty, rounds=3), closed_states(empty), rounds_needed(empty)), (empty, (), (), 0))


class DraftsAndPacts(Raising):
    def test_clauses_are_pacts(self):
        for text in ("", "ab5;", "a(D)", "D,", "[" * 31 + "D" + "]" * 31, "ab5, b(D"):
            with self.assertRaises(BadText) as caught:
                parse_pact(text)
            error = self.raises(BadClause, {"label": (1, "a")}, Draft, [("add", (1, "a"), None, text)])
            self.assertEqual(vars(error.__cause__), vars(caught.exception))

    def test_clauses_one_after_the_other(self):
        chance = random.Random(198)
        for _ in range(100):
            draft = Draft(some_amendments(chance, 12))
            whole = parse_pact(".")
            for _, text in draft.clauses():
                whole = whole + parse_pact(text)
            self.assertEqual((draft.pact(), draft.pact().weight), (whole, whole.weight))


class HousesAndPlays(Raising):
    def some_play(self, chance, purses, pact):
        """A play of a house, and the same one outside of it."""
        house = replay(purses, [("amend", ("add", (1, "a"), None, pact.text)), ("sign", "x")])
        return house, Play(pact, purses)

    def test_plays_of_rich_parties_are_alike(self):
        chance = random.Random(199)
        many = 0
        for _ in range(200):
            purses = {party: 10 ** 6 for party in chance.sample("abcd", 4)}
            house, play = self.some_play(chance, purses, some_pact(chance, 20, "abc", "DE"))
            while True:
                self.assertEqual((house.turn_of("x"), house.happened("x")), (play.turn, play.happened()))
                self.assertEqual((house.debts(), list(house.purses().items())), ({}, list(play.purses().items())))
                move = ("take", 0) if play.turn == "over" else chance.choice([*moves_here(play, 2), ("take", 9), ("rounds", -1)])
                mover = chance.choice([play.turn] * 9 + ["d"])
                wanted = PlayOver if play.turn == "over" else WrongTurn if mover != play.turn else None
                try:
                    play.twin().move(move)
                except BadMove:
                    wanted = wanted or BadMove
                except PlayOver:
                    pass
                if wanted is not None:
                    self.assertRaises(wanted, house.do, ("move", "x", mover, move))
                    if wanted is PlayOver:
                        break
                else:
                    house.do(("move", "x", mover, move))
                    play.move(move)
                    many += 1
        self.assertGreater(many, 300)

    def test_parties_without_coins_owe_everything(self):
        chance = random.Random(200)
        for _ in range(100):
            pact = some_pact(chance, 20, "abc", "DE", endless=False)
            house, play = self.some_play(chance, dict.fromkeys("abc", 0), pact)[0], rich_play(pact)
            while play.turn != "over":
                move = chance.choice(moves_here(play, 2))
                house.do(("move", "x", play.turn, move))
                play.move(move)
            self.assertEqual((house.debts(), house.happened("x")), (owed(play.happened()), play.happened()))
            house.do(("set off",))
            self.assertEqual(house.debts(), set_off(owed(play.happened()))[0])

    def test_errors_of_signing_are_those_of_plays(self):
        for text in ("ab5", "a(D | E)", "b[.], cd1", "f[e(. | .)]"):
            pact = parse_pact(text)
            for purses in ({}, {"a": 1}, {"a": 1, "b": 2}, {"e": 0}):
                house = replay(purses, [("amend", ("add", (1, "a"), None, text))])
                try:
                    Play(pact, purses)
                except NoPurse as error:
                    self.raises(NoPurse, {"party": error.party}, house.do, ("sign", "x"))
                else:
                    house.do(("sign", "x"))
        clauses = [("amend", ("add", (at, "a"), None, "90(D)")) for at in range(1, 6)]
        self.raises(TooLarge, {"weight": 455, "depth": 2}, replay, {}, [*clauses, ("sign", "x")])
        self.raises(TooLarge, {"weight": 455, "depth": 2}, replay({}, clauses).draft().pact)

    def test_worths_are_balances(self):
        chance = random.Random(201)
        struck = 0
        for _ in range(40):
            purses = {party: chance.randint(0, 9) for party in "abcd"}
            house = House(purses)
            for _ in range(60):
                try:
                    house.do(some_deed(chance, house))
                except HouseError:
                    pass
                # It does not matter for the worth whether something is paid or owed, or what is set off.
                told = [text for name in house.signed_names() for text in house.happened(name)]
                rows = balance_row(told, parties="abcd", marks="")
                self.assertEqual([house.worth(party) for party in "abcd"], [purses[party] + row for party, row in zip("abcd", rows)])
                owing = net(house.debts())
                self.assertEqual([house.purses()[party] + owing[PARTIES.index(party)] for party in "abcd"],
                                 [house.worth(party) for party in "abcd"])
                self.assertTrue(all(coins >= 0 for coins in house.purses().values()))
            struck += len(house.struck())
            lines = write_deeds(house.deeds())
            again = replay(purses, read_deeds(lines))
            self.assertEqual((again.deeds(), again.struck(), again.fallen(), again.debts(), write_deeds(again.deeds())),
                             (house.deeds(), house.struck(), house.fallen(), house.debts(), lines))
        self.assertGreater(struck, 20)


if __name__ == "__main__":
    unittest.main()
