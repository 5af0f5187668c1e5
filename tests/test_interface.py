"""The names, arguments and places of the interface."""
import importlib
import inspect
import unittest

FUNCTIONS = {
    "rows": {"combine": "(rows, factors, *, width)"},
    "claims": {"keeps": "(row, claim)"},
    "stairs": {"staircase": "(rows, *, width)", "remainder": "(row, steps)"},
    "living": {"live_names": "(grammar)", "base_derivation": "(grammar, name)"},
    "least": {"least_set": "(grammar, name)", "telling": "(grammar, name)", "breaking": "(grammar, name, claim)"},
    "certificates": {"certificate": "(grammar)", "accepts": "(grammar, paper)"},
    "notation": {"parse_pact": "(text)"},
    "runs": {"runs": "(pact, *, most=1)", "run_need": "(happenings, party, *, needed=0)",
             "history_of": "(happenings)"},
    "purses": {"need_of": "(pact, party)", "least_purse": "(play, party, *, needed=0)", "pact_for": "(need)"},
    "balances": {"balance_row": "(happenings, *, parties, marks)", "balances": "(pact, *, parties, marks)"},
    "playgrammars": {"play_grammar": "(pact, *, parties, marks)", "moves_of": "(pact, derivation)",
                     "derivation_of": "(pact, moves, *, parties, marks)"},
    "duties": {"never": "(letters, mark)", "only_after": "(letters, mark, earlier)",
               "answered": "(letters, mark, answer)", "at_most": "(letters, mark, times)"},
    "histories": {"histories": "(pact, *, letters)", "first_history": "(pact, duty)",
                  "moves_for": "(pact, history, *, letters)"},
    "clashes": {"first_clash": "(pact, one, other)", "core": "(pact, duties)"},
    "guards": {"guard_states": "(pact, party, duty)", "can_guard": "(pact, party, duty)"},
    "dayrules": {"shift": "(days)", "next_good": "(period, good)", "last_good": "(period, good)"},
    "deadlines": {"plan_days": "(many, bounds, start)"},
    "lapses": {"first_lapse": "(pact, waits, mark, answer, rule)"},
    "debts": {"owed": "(happenings)", "net": "(debts)"},
    "setoff": {"set_off": "(debts)"},
    "clearing": {"clear": "(debts, purses)", "purse_to_pay": "(debts, purses, party)"},
    "exchanges": {"alike": "(one, other, *, to)"},
    "letters": {"grow": "(end, view, letter)"},
    "losses": {"swapped": "(rule)", "passable": "(rule, *, rounds)", "closed_states": "(rule)",
               "rounds_needed": "(rule)"},
    "agreeing": {"agree": "(rule, draft, amendment, wishes, fates)"},
    "houses": {"replay": "(purses, deeds)"},
    "under": {"balances_under": "(pact, duty, *, parties, marks)"},
    "books": {"write_deeds": "(deeds)", "read_deeds": "(lines)"},
}
CLASSES = {
    "machines": {"Machine": {
        "__init__": "(self, letters, rows, good=None)", "after": "(self, text)", "first_text": "(self)",
        "how_many": "(self, length)", "texts": "(self, length)", "rounds": "(self)", "beginnings": "(self)",
        "unending": "(self)", "__and__": "(self, other)", "__or__": "(self, other)", "__sub__": "(self, other)",
        "__invert__": "(self)", "__rshift__": "(self, other)", "__contains__": "(self, text)",
        "__eq__": "(self, other)"}},
    "countsets": {"CountSet": {
        "__init__": "(self, width, *, start=None, steps=())", "within": "(self, other)", "rounds": "(self)",
        "coordinates": "(self, row)", "holds": "(self, claim)", "claims": "(self)", "__add__": "(self, other)",
        "__or__": "(self, other)", "__mul__": "(self, other)", "__contains__": "(self, row)",
        "__eq__": "(self, other)"}},
    "grammars": {"Grammar": {"__init__": "(self, width, names, rules)", "rules_of": "(self, name)"}},
    "derivations": {"Derivation": {"__init__": "(self, grammar, steps)", "leftmost": "(self)"}},
    "needs": {"Need": {
        "__init__": "(self, start, rises, never)", "__call__": "(self, k)", "__rshift__": "(self, other)",
        "__or__": "(self, other)", "__and__": "(self, other)", "__mul__": "(self, other)", "__eq__": "(self, other)",
        "mine": "(self)", "theirs": "(self)", "endless": "(self)", "excess": "(self, other)",
        "surely": "(self, purse)", "rounds_to_afford": "(self, needed, purse)",
        "rounds_to_exceed": "(self, needed, purse)", "lowest": "(self, needed, limit)",
        "highest": "(self, needed, limit)"}},
    "pacts": {
        "Transfer": {"__init__": "(self, payer, payee, amount)"}, "Event": {"__init__": "(self, mark)"},
        "Choice": {"__init__": "(self, owner, options)"}, "Rounds": {"__init__": "(self, owner, body)"},
        "Endless": {"__init__": "(self, body)"}, "Times": {"__init__": "(self, count, body)"},
        "Pact": {"__init__": "(self, parts)", "__add__": "(self, other)", "__mul__": "(self, other)",
                 "__eq__": "(self, other)", "__len__": "(self)", "__getitem__": "(self, at)", "__iter__": "(self)"}},
    "plays": {"Play": {
        "__init__": "(self, pact, purses)", "move": "(self, move)", "undo": "(self)", "coins": "(self, party)",
        "purses": "(self)", "moves": "(self)", "row": "(self)", "twin": "(self)", "happened": "(self)"}},
    "keepers": {
        "Keeper": {"__init__": "(self, party, *, needed=0)", "move": "(self, play)"},
        "Breaker": {"__init__": "(self, party, *, needed=0)", "move": "(self, play)"}},
    "guards": {
        "Guard": {"__init__": "(self, party, duty)", "move": "(self, play)"},
        "Spoiler": {"__init__": "(self, party, duty)", "move": "(self, play)"}},
    "dayrules": {"DayRule": {
        "__init__": "(self, days)", "__call__": "(self, day)", "__rshift__": "(self, other)",
        "__or__": "(self, other)", "__and__": "(self, other)", "__mul__": "(self, other)", "__eq__": "(self, other)",
        "latest": "(self)", "soonest": "(self)", "exceeds": "(self, other)", "ring": "(self)"}},
    "exchanges": {"Exchange": {
        "__init__": "(self, first_bit, second_bit, fates)", "__len__": "(self)", "__eq__": "(self, other)",
        "seen": "(self, end)"}},
    "deciders": {"Decider": {"__init__": "(self, rule, *, rounds=None)", "__call__": "(self, end, view)"}},
    "chains": {"Chain": {"__init__": "(self, rule, *, rounds)", "__getitem__": "(self, at)"}},
    "drafts": {"Draft": {
        "__init__": "(self, amendments)", "order": "(self)", "contested": "(self)", "clauses": "(self)",
        "pact": "(self)", "resting": "(self, label)", "without": "(self, label)", "next_label": "(self, party)",
        "__or__": "(self, other)", "__eq__": "(self, other)"}},
    "cases": {"Case": {
        "__init__": "(self, ranks, answers)", "ruling": "(self)", "settled": "(self)",
        "reply": "(self, paper, answer)", "with_paper": "(self, rank, answering, answered_by)"}},
    "houses": {"House": {
        "__init__": "(self, purses)", "do": "(self, deed)", "undo": "(self)", "redo": "(self)", "purses": "(self)",
        "debts": "(self)", "draft": "(self)", "case": "(self)", "deeds": "(self)", "struck": "(self)",
        "fallen": "(self)", "signed_names": "(self)", "turn_of": "(self, name)", "happened": "(self, name)",
        "worth": "(self, party)"}},
}


class Interface(unittest.TestCase):
    def test_functions_stand_in_their_files(self):
        for file, names in FUNCTIONS.items():
            module = importlib.import_module(f"signedpacts.{file}")
            for name, signature in names.items():
                function = getattr(module, name)
                self.assertEqual(function.__module__, module.__name__)
                self.assertEqual(str(inspect.signature(function)), signature)

    def test_methods_stand_in_their_classes(self):
        for file, names in CLASSES.items():
            module = importlib.import_module(f"signedpacts.{file}")
            for name, methods in names.items():
                kind = getattr(module, name)
                self.assertEqual(kind.__module__, module.__name__)
                for method, signature in methods.items():
                    self.assertEqual(str(inspect.signature(vars(kind)[method])), signature)

    def test_generators_properties_and_class_methods(self):
        from signedpacts.chains import Chain
        from signedpacts.countsets import CountSet
        from signedpacts.dayrules import DayRule
        from signedpacts.deciders import Decider
        from signedpacts.derivations import Derivation
        from signedpacts.least import telling
        from signedpacts.machines import Machine
        from signedpacts.plays import Play
        from signedpacts.runs import runs
        for generator in (Machine.texts, Derivation.leftmost, telling, runs):
            self.assertTrue(inspect.isgeneratorfunction(generator))
        self.assertIsInstance(vars(CountSet)["rank"], property)
        for name in ("root", "total", "size", "height"):
            self.assertIsInstance(vars(Derivation)[name], property)
        for name in ("turn", "outcome", "loser"):
            self.assertIsInstance(vars(Play)[name], property)
        self.assertIsInstance(vars(DayRule)["period"], property)
        self.assertIsInstance(vars(Decider)["round_count"], property)
        self.assertIsInstance(vars(Chain)["length"], property)
        self.assertIsInstance(vars(CountSet)["around"], classmethod)
        self.assertEqual(str(inspect.signature(CountSet.around)), "(width, rows)")
        self.assertIsInstance(vars(Derivation)["from_rules"], classmethod)
        self.assertEqual(str(inspect.signature(Derivation.from_rules)), "(grammar, name, numbers)")

    def test_parties(self):
        from signedpacts.parties import PARTIES
        self.assertEqual(PARTIES, "abcdef")

    def test_start_and_steps_are_passed_by_keyword(self):
        from signedpacts.countsets import CountSet
        with self.assertRaises(TypeError):
            CountSet(1, (0,), ())
