"""The general rules of [2]: arguments, results and repeated questions."""
import copy
import unittest

from signedpacts.agreeing import agree
from signedpacts.balances import balance_row, balances
from signedpacts.books import read_deeds, write_deeds
from signedpacts.cases import Case
from signedpacts.certificates import accepts, certificate
from signedpacts.chains import Chain
from signedpacts.claims import keeps
from signedpacts.clashes import core, first_clash
from signedpacts.clearing import clear, purse_to_pay
from signedpacts.countsets import CountSet
from signedpacts.dayrules import DayRule, last_good, next_good, shift
from signedpacts.deadlines import plan_days
from signedpacts.debts import net, owed
from signedpacts.deciders import Decider
from signedpacts.derivations import Derivation
from signedpacts.drafts import Draft
from signedpacts.duties import answered, never
from signedpacts.errors import (BadAmount, BadDays, BadDeed, BadEvent, BadMove, BadNeed, BadPaper, BadPart, BadRow, BadRule,
                                BadStep, BadWait, BadWidth, CannotKeep, LettersDiffer, Missing, NeverSeen, NoPurse, NotAllowed,
                                OutOfChain, SameLabel, Unmatched)
from signedpacts.exchanges import Exchange
from signedpacts.grammars import Grammar
from signedpacts.guards import Guard, can_guard, guard_states
from signedpacts.histories import first_history, histories, moves_for
from signedpacts.houses import replay
from signedpacts.lapses import first_lapse
from signedpacts.keepers import Keeper
from signedpacts.least import breaking, least_set, telling
from signedpacts.letters import grow
from signedpacts.living import base_derivation, live_names
from signedpacts.losses import closed_states, passable, rounds_needed, swapped
from signedpacts.machines import Machine
from signedpacts.needs import Need
from signedpacts.notation import parse_pact
from signedpacts.pacts import Choice, Event, Pact, Times
from signedpacts.playgrammars import derivation_of, moves_of, play_grammar
from signedpacts.plays import Play
from signedpacts.purses import least_purse, need_of
from signedpacts.rows import combine
from signedpacts.runs import history_of, run_need, runs
from signedpacts.setoff import set_off
from signedpacts.stairs import remainder, staircase
from signedpacts.under import balances_under


def in_tuples(value):
    """The value with tuples in place of lists, at every level."""
    return tuple(map(in_tuples, value)) if isinstance(value, (list, tuple)) else value


def in_lists(value):
    """The value with lists in place of tuples, at every level."""
    return list(map(in_lists, value)) if isinstance(value, (list, tuple)) else value


def machine_fields(letters, rows, good):
    machine = Machine(letters, rows, good)
    return machine.letters, machine.rows, machine.good


def set_fields(counts):
    return counts.width, counts.start, counts.steps, counts.claims()


def grammar_fields(width, names, rules):
    grammar = Grammar(width, names, rules)
    return grammar.names, grammar.rules, grammar.rules_of(names[0])


def derivation_fields(width, names, rules, steps):
    derivation = Derivation(Grammar(width, names, rules), steps)
    return derivation.steps, derivation.root, derivation.total, derivation.size, derivation.height


def leftmost_fields(rules, numbers):
    return Derivation.from_rules(Grammar(1, ["S"], rules), "S", numbers).steps


def least_fields(rules, claim):
    grammar = Grammar(2, ["S", "T"], rules)
    broken = breaking(grammar, "S", claim)
    return (set_fields(least_set(grammar, "S")), tuple(one.steps for one in telling(grammar, "S")), live_names(grammar),
            base_derivation(grammar, "S").steps, broken.steps, certificate(grammar))


def need_fields(start, rises, never):
    need = Need(start, rises, never)
    return tuple((one.start, one.rises, one.never) for one in (need, need >> need, need * 3, need.mine(), need.theirs()))


def choice_fields(owner, options):
    return Choice(owner, options).text, Choice(owner, options).options[0].parts


def derived_moves(moves):
    derivation = derivation_of(PACT, moves, parties="ab", marks="D")
    return derivation.steps, derivation.total, moves_of(PACT, derivation)


def play_fields(number):
    play = Play(PACT, {"a": 9, "b": 0})
    play.move(("rounds", number))
    return play.moves(), play.happened(), tuple((part.text, limit) for part, limit in play.row())


def draft_fields(amendments, label):
    draft = Draft(amendments)
    return (draft.amendments, draft.order(), draft.contested(), draft.clauses(), draft.resting(label),
            draft.without(label).amendments, (draft | draft).amendments)


def case_fields(ranks, answers, answering, answered_by):
    case = Case(ranks, answers).with_paper(0, answering, answered_by)
    return case.ranks, case.answers, case.ruling(), case.settled()


def agreed_clauses(amendment, wishes):
    return tuple(draft.clauses() for draft in agree(LOSS, Draft([]), amendment, wishes, "bf"))


def house_fields(deeds):
    house = replay({"a": 5, "b": 0}, deeds)
    return (house.deeds(), house.struck(), house.fallen(), house.signed_names(), house.happened("x"), house.draft().amendments,
            house.case().answers)


LOSS = Machine("bfsn", [[0, 1, 1, None], [1, None, None, None]])
RULES = [["S", [1, 2], ["S"]], ["S", [0, 0], ["T"]], ["T", [3, 0], ["T"]], ["T", [0, 0], []]]
DAY, MONTH = Event("D"), Event("M")
PACT = parse_pact("a[ab1, b(D | .)]")
PAPER = certificate(Grammar(2, ["S", "T"], RULES))

CALLS = [
    (machine_fields, ["ab", [[1, 2], [None, 1], [2, 0]], [2, 1]]),
    (lambda rows, factors: combine(rows, factors, width=2), [[[1, 2], [3, 4]], [5, -6]]),
    (keeps, [[1, 2], [[3, 4], 5, 6]]),
    (lambda rows: staircase(rows, width=3), [[[4, 6, 1], [2, 0, 5], [-2, 6, -4]]]),
    (remainder, [[7, -8], [[2, 1], [0, 3]]]),
    (lambda start, steps: set_fields(CountSet(2, start=start, steps=steps)), [[7, -8], [[4, 2], [0, 3], [2, 2]]]),
    (lambda rows: set_fields(CountSet.around(2, rows)), [[[1, 1], [4, 2], [0, -9]]]),
    (lambda row: CountSet(2, start=[1, 1], steps=[[2, 0]]).coordinates(row), [[5, 1]]),
    (lambda row: row in CountSet(2, start=[1, 1], steps=[[2, 0]]), [[5, 1]]),
    (lambda claim: CountSet(2, start=[1, 1], steps=[[2, 0]]).holds(claim), [[[1, 1], 0, 2]]),
    (grammar_fields, [2, ["S", "T"], [["S", [1, 2], ["S", "T"]], ["T", [0, 0], []], ["S", [3, 4], []]]]),
    (derivation_fields, [1, ["S"], [["S", [1], ["S", "S"]], ["S", [2], []]], [[1, []], [0, [0, 0]], [0, [1, 0]]]]),
    (leftmost_fields, [[["S", [1], ["S", "S"]], ["S", [2], []]], [0, 1, 1]]),
    (least_fields, [RULES, [[1, 0], 0, 0]]),
    (lambda paper: accepts(Grammar(2, ["S", "T"], RULES), paper), [PAPER]),
    (need_fields, [2, [[0, 3], [5, 6]], 9]),
    (lambda told: (run_need(told, "a", needed=2), history_of(told)), [["ab5", "D", "ba3"]]),
    (lambda told, parties, marks: balance_row(told, parties=parties, marks=marks),
     [["ab5", "D", "ba3"], ["a", "c"], ["D"]]),
    (derived_moves, [[["rounds", 2], ["take", 0], ["rounds", 1], ["take", 1]]]),
    (play_fields, [2]),
    (lambda most: tuple(runs(PACT, most=most)), [2]),
    (lambda parties: set_fields(balances(PACT, parties=parties, marks="D")), [["a", "b"]]),
    (lambda parties: play_grammar(PACT, parties=parties, marks="D").rules, [["a", "b"]]),
    (lambda days: (DayRule(days).days, (DayRule(days) * 3).days, DayRule(days).latest().days, DayRule(days).ring()),
     [[0, 0, 2]]),
    (lambda good: (next_good(7, good).days, last_good(7, good).days), [[4, 0, 0, 3]]),
    (lambda many: moves_for(PACT, "D" * many, letters="D"), [3]),
    (lambda told: tuple(owed(told).items()), [["ab5", "D", "ba3", "ab1"]]),
    (lambda view, letter: (grow("first", view, letter), grow("second", view, None)), [[0, None, "", 1], [1, None, "", 1]]),
    (lambda view: Decider(LOSS)("second", view), [[1, 0, "", 1]]),
    (lambda rounds: (passable(LOSS, rounds=rounds), closed_states(LOSS), swapped(LOSS).rows), [1]),
    (lambda parties, marks: set_fields(balances_under(PACT, answered("D", "D", "D"), parties=parties, marks=marks)), [["a", "b"], ["D"]]),
    (draft_fields, [[["add", [1, "a"], None, "D"], ["change", [3, "a"], [[1, "a"], [2, "b"]], "E"],
                     ["change", [2, "b"], [[1, "a"]], "."], ["strike", [4, "a"], [1, "a"]]], [2, "b"]]),
    (case_fields, [[0, 1, 0], [[1, 0], [2, 1]], [0, 3], [1]]),
    (agreed_clauses, [["add", [1, "a"], None, "D"], [1, 1]]),
    (house_fields, [[["amend", ["add", [1, "a"], None, "ab5, D"]], ["sign", "x"], ["paper", 0, [0], [0, 0], 1], ["pay", "ab", 0],
                     ["set off"], ["rule"]]]),
    (lambda deeds: (write_deeds(deeds), read_deeds(write_deeds(deeds))),
     [[["amend", ["change", [1, "a"], [[1, "a"]], " "]], ["paper", 0, [0], [0, 0], None], ["move", "x", "a", ["take", 1]]]]),
    (read_deeds, [["rule", "paper 1 - 2,3 -"]]),
]


class GeneralRules(unittest.TestCase):
    def only_tuples(self, value):
        if not isinstance(value, (int, str, type(None))):
            self.assertIs(type(value), tuple)
            for member in value:
                self.only_tuples(member)

    def test_lists_and_tuples_are_alike(self):
        for call, arguments in CALLS:
            self.assertEqual(call(*in_tuples(arguments)), call(*in_lists(arguments)))

    def test_every_sequence_in_a_result_is_a_tuple(self):
        for call, arguments in CALLS:
            self.only_tuples(call(*in_lists(arguments)))

    def test_arguments_are_not_changed(self):
        for call, arguments in CALLS:
            before = copy.deepcopy(arguments)
            first = call(*arguments)
            self.assertEqual(arguments, before)
            self.assertEqual(call(*arguments), first)

    def test_arguments_are_not_changed_by_errors(self):
        rows, steps, rules = [[0, 1], [5]], [[1, 2], [3]], [["S", [1, 2], ["U"]]]
        before = copy.deepcopy([rows, steps, rules])
        grammar = Grammar(1, ["S"], [("S", (1,), []), ("S", (1,), ["S"])])
        parts, options, bad_steps, numbers, rises = [DAY, None], [Pact([DAY]), DAY], [[0, []], [1, [1]]], [1, 1], [[2, 1]]
        more = [list(given) for given in (parts, options, bad_steps, numbers, rises)]
        for error, call in ((BadRow, lambda: Machine("ab", rows, [0])), (BadRule, lambda: Grammar(2, ["S"], rules)),
                            (BadWidth, lambda: CountSet(2, start=[0, 0], steps=steps)),
                            (BadWidth, lambda: CountSet.around(2, steps)), (BadPart, lambda: Pact(parts)),
                            (BadPart, lambda: Choice("a", options)), (BadStep, lambda: Derivation(grammar, bad_steps)),
                            (BadStep, lambda: Derivation.from_rules(grammar, "S", numbers)),
                            (BadNeed, lambda: Need(0, rises, None))):
            for _ in range(2):
                self.assertRaises(error, call)
        self.assertEqual([rows, steps, rules], before)
        self.assertEqual([parts, options, bad_steps, numbers, rises], more)

    def test_later_changes_of_a_machines_arguments(self):
        rows, good = [[1, 0], [None, 1]], [1]
        machine = Machine("ab", rows, good)
        rows[0][0] = None
        rows.append([0, 0])
        good.clear()
        self.assertEqual((machine.rows, machine.good, "a" in machine), (((1, 0), (None, 1)), (1,), True))

    def test_later_changes_of_a_count_sets_arguments(self):
        start, steps = [1, 1], [[2, 0]]
        counts = CountSet(2, start=start, steps=steps)
        start[0], steps[0][0] = 100, 100
        steps.append([0, 1])
        self.assertEqual((counts.start, counts.steps), ((1, 1), ((2, 0),)))
        rows = [[1, 1], [3, 1]]
        around = CountSet.around(2, rows)
        rows[1][0] = 2
        self.assertEqual(around, counts)

    def test_later_changes_of_a_grammars_arguments(self):
        names, rules = ["S", "T"], [["S", [1], ["T"]]]
        grammar = Grammar(1, names, rules)
        names.append("U")
        rules[0][1][0] = 9
        rules[0][2].append("S")
        rules.append(["T", [0], []])
        self.assertEqual((grammar.names, grammar.rules), (("S", "T"), (("S", (1,), ("T",)),)))
        self.assertEqual(grammar.rules_of("T"), ())

    def test_operators_and_methods_change_nothing(self):
        one, other = Machine("ab", [[1, 0], [None, 1]], [1]), Machine("ab", [[0, None]])
        before = [(m.letters, m.rows, m.good) for m in (one, other)]
        for _ in range(2):
            results = [one & other, one | other, one - other, ~one, one >> other, one.rounds(), one.beginnings(),
                       one.unending(), one.after("ab"), one.first_text(), one.how_many(5), list(one.texts(5))]
            self.assertEqual(results, [one & other, one | other, one - other, ~one, one >> other, one.rounds(),
                                       one.beginnings(), one.unending(), one.after("ab"), one.first_text(),
                                       one.how_many(5), list(one.texts(5))])
            self.assertEqual([(m.letters, m.rows, m.good) for m in (one, other)], before)

    def test_operators_and_methods_of_count_sets_change_nothing(self):
        one, other = CountSet(1, start=(1,), steps=[(4,)]), CountSet(1, start=(2,), steps=[(6,)])
        before = [set_fields(one), set_fields(other)]
        for _ in range(2):
            results = [one + other, one | other, one * 3, one.rounds(), one.within(other), one.claims()]
            self.assertEqual(results, [one + other, one | other, one * 3, one.rounds(), one.within(other),
                                       one.claims()])
            self.assertEqual([set_fields(one), set_fields(other)], before)

    def test_lists_and_tuples_of_parts_are_alike(self):
        one, other = Pact([DAY, MONTH]), Pact((DAY, MONTH))
        self.assertEqual((one.parts, one.text, one[:1]), (other.parts, other.text, (DAY,)))
        self.assertEqual(choice_fields("a", [one, other]), choice_fields("a", (other, one)))
        self.assertEqual(choice_fields("a", [one, other])[1], (DAY, MONTH))

    def test_operators_of_pacts_change_nothing(self):
        one, other = Pact([DAY]), Pact([MONTH])
        before = [(pact.parts, pact.weight, pact.depth, pact.text) for pact in (one, other)]
        for _ in range(2):
            self.assertEqual([(one + other).text, (one * 3).text, Times(3, one).text], ["D, M", "3(D)", "3(D)"])
            self.assertRaises(BadPart, lambda: one + [MONTH])
        self.assertEqual([(pact.parts, pact.weight, pact.depth, pact.text) for pact in (one, other)], before)

    def test_plays_are_changed_by_their_moves_alone(self):
        purses = {"a": 9, "b": 0}
        play = Play(PACT, purses)
        play.move(("rounds", 3))
        before = (play.turn, play.purses(), play.moves(), play.row(), play.happened())
        for _ in range(2):
            self.assertEqual([least_purse(play, "a", needed=3), need_of(PACT, "a")(3)], [3, 3])
            self.assertRaises(BadMove, play.move, ["take", 0])
            self.assertRaises(BadAmount, Keeper, "a", needed=-1)
            self.assertRaises(NoPurse, play.coins, "f")
            self.assertEqual(play.twin().moves(), play.moves())
            self.assertEqual((play.turn, play.purses(), play.moves(), play.row(), play.happened()), before)
        self.assertEqual((purses, PACT.text), ({"a": 9, "b": 0}, "a[ab1, b(D | .)]"))
        self.assertIsNone(play.move(("take", 0)))
        self.assertIsNone(play.undo())

    def test_bounds_and_duties_in_lists_and_tuples(self):
        rule, back = shift(2), shift(-3)
        for bounds, answer in (([["from", 0, 1, rule]], ("days", (1, 3))), ([["from", 0, 0, rule]], ("ring", (0,), 1)),
                               ([["by", 1, 0, back]], ("days", (1, 4)))):
            for given in (bounds, tuple(map(tuple, bounds)), list(map(tuple, bounds))):
                before = list(given)
                self.assertEqual([plan_days(len(answer[1]), given, 1) for _ in range(2)], [answer] * 2)
                self.assertEqual(list(given), before)
        duties = [never("D", "D"), answered("D", "D", "D")]
        self.assertEqual([core(PACT, duties), core(PACT, tuple(duties)), len(duties)], [(0,), (0,), 2])

    def test_questions_about_duties_and_days_change_nothing(self):
        duty, waits = never("D", "D"), {"D": shift(2)}
        before = (duty.letters, duty.rows, duty.good, PACT.text, list(waits))
        for _ in range(2):
            self.assertEqual((first_history(PACT, ~duty), histories(PACT, letters="D").how_many(4), core(PACT, [duty])),
                             ("D", 1, (0,)))
            self.assertEqual((guard_states(PACT, "b", duty), can_guard(PACT, "a", duty)), ((0,), True))
            self.assertEqual(first_lapse(PACT, waits, "D", "D", shift(1)), ("DD", 0))
            self.assertIsNone(first_clash(PACT, duty, duty))
            self.assertRaises(LettersDiffer, first_clash, PACT, duty, never("DE", "D"))
            self.assertRaises(CannotKeep, Guard("a", ~duty).move, Play(parse_pact("a(. | E)"), {"a": 0}))
            self.assertRaises(BadWait, first_lapse, PACT, {"D": shift(-1)}, "D", "D", shift(1))
            self.assertRaises(BadEvent, plan_days, 1, [("from", 0, 1, waits["D"])], 0)
            self.assertRaises(BadDays, DayRule, [1, 0])
            self.assertEqual((duty.letters, duty.rows, duty.good, PACT.text, list(waits)), before)

    def test_later_changes_of_a_cases_and_a_houses_arguments(self):
        ranks, answers, answering = [0, 0], [[1, 0]], [0, 1]
        case = Case(ranks, answers).with_paper(0, answering, [])
        deeds = [["amend", ["add", [1, "a"], None, "ab5"]], ["sign", "x"], ["paper", 0, [0], [], None]]
        house = replay({"a": 5, "b": 0}, deeds)
        before = case.answers, house.deeds()
        ranks.append(9)
        answers[0][0] = 0
        answering.clear()
        deeds[0][1][1][0] = 7
        deeds[2][2].append(0)
        deeds.clear()
        self.assertEqual((case.answers, house.deeds()), before)

    def test_questions_about_debts_change_nothing(self):
        debts, purses = {"ba": 3, "ab": 5, "cd": 0}, {"c": 1, "b": 0, "a": 2}
        before = list(debts.items()), list(purses.items())
        for _ in range(2):
            self.assertEqual((net(debts), set_off(debts)), ((-2, 2, 0, 0, 0, 0), ({"ab": 2}, (0, -1, 0, 0, 0, 0))))
            self.assertEqual(clear(debts, purses), ({"c": (0, 1), "b": (3, 1), "a": (5, 1)}, ()))
            self.assertEqual(purse_to_pay(debts, purses, "a"), 2)
            for call in (net, set_off, lambda one: clear(one, purses), lambda one: purse_to_pay(one, purses, "a")):
                self.assertRaises(BadAmount, call, {"ab": 1, "ba": -1})
            self.assertRaises(NoPurse, clear, {"ef": 1}, purses)
            self.assertEqual((list(debts.items()), list(purses.items())), before)
        # A dict that is returned is new each time.
        for call in (lambda: set_off(debts)[0], lambda: clear(debts, purses)[0], lambda: owed(["ab1"])):
            call().clear()
            self.assertTrue(call())

    def test_questions_about_letters_change_nothing(self):
        before, chain, decider = (LOSS.rows, LOSS.good), Chain(LOSS, rounds=1), Decider(LOSS)
        exchange = Exchange(0, 1, "bf")
        for _ in range(2):
            self.assertEqual((rounds_needed(LOSS), closed_states(LOSS), chain.length, decider.round_count), (2, (), 5, 2))
            self.assertEqual([decider(end, exchange.seen(end)) for end in ("first", "second")], [0, 0])
            self.assertEqual((chain[2].fates, exchange.seen("second"), len(exchange)), ("b", (1, 0, "", 1), 2))
            self.assertRaises(OutOfChain, lambda: chain[5])
            self.assertRaises(NeverSeen, decider, "first", (0, None, "", 2))
            self.assertRaises(Unmatched, grow, "first", (0, None, "", 1), (1, None, "", 2))
            self.assertRaises(NotAllowed, agree, LOSS, Draft([]), ("add", (1, "a"), None, "D"), (1, 1), "ff")
            self.assertEqual((LOSS.rows, LOSS.good), before)

    def test_drafts_and_cases_change_nothing(self):
        draft, case = Draft([("add", (1, "a"), None, "D")]), Case([0, 0], [(1, 0)])
        for _ in range(2):
            self.assertEqual(((draft | draft).pact().text, draft.without((1, "a")).order(), draft.next_label("f")), ("D", (), (2, "f")))
            self.assertRaises(SameLabel, lambda: draft | Draft([("add", (1, "a"), None, "E")]))
            self.assertRaises(Missing, Draft, [*draft.amendments, ("strike", (2, "a"), (1, "b"))])
            self.assertEqual((case.with_paper(0, [1], []).ruling(), case.ruling()),
                             (("upheld", "refused", "upheld"), ("refused", "upheld")))
            self.assertRaises(BadPaper, case.with_paper, 0, [3], [])
            self.assertEqual((draft.amendments, case.answers), ((("add", (1, "a"), None, "D"),), ((1, 0),)))
        house = replay({"a": 1}, [("amend", draft.amendments[0])])
        for _ in range(2):
            self.assertRaises(BadDeed, house.do, ("paper", 0, [], [], 1))
            self.assertEqual((len(house.deeds()), house.case().ranks, house.draft()), (1, (), draft))

    def test_two_generators_at_once(self):
        machine = Machine("ab", [[0, 0]])
        one, other = machine.texts(2), machine.texts(2)
        self.assertEqual([next(one), next(one), next(other), next(one), next(other)], ["aa", "ab", "aa", "ba", "ab"])
