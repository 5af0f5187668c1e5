import unittest

from signedpacts.errors import BadName, BadRule, UnknownName
from signedpacts.grammars import Grammar

RULES = [("S", (1, 2), ["S"]), ("S", [0, 0], ("T", "T")), ["T", (3, 0), ["T"]], ("T", (0, 0), []), ("S", (5, 5), [])]


class Grammars(unittest.TestCase):
    def test_fields(self):
        grammar = Grammar(2, ["S", "T", "U"], RULES)
        self.assertEqual((grammar.width, grammar.names), (2, ("S", "T", "U")))
        self.assertEqual(grammar.rules, (("S", (1, 2), ("S",)), ("S", (0, 0), ("T", "T")), ("T", (3, 0), ("T",)),
                                         ("T", (0, 0), ()), ("S", (5, 5), ())))

    def test_rules_of(self):
        grammar = Grammar(2, ["S", "T", "U"], RULES)
        self.assertEqual([grammar.rules_of(name) for name in ("S", "T", "U")], [(0, 1, 4), (2, 3), ()])

    def test_unknown_name(self):
        grammar = Grammar(2, ["S", "T"], RULES)
        for name in ("U", "", "s", "ST"):
            with self.assertRaises(UnknownName) as caught:
                grammar.rules_of(name)
            self.assertEqual(caught.exception.name, name)

    def test_no_rules_and_no_columns(self):
        self.assertEqual(Grammar(3, ["S"], []).rules, ())
        grammar = Grammar(0, ("S",), (("S", (), ()), ("S", [], ["S"] * 100)))
        self.assertEqual((grammar.rules_of("S"), len(grammar.rules[1][2])), ((0, 1), 100))

    def test_first_bad_name(self):
        for names, at in (([""], 0), (["S", ""], 1), (["S", "T", "S", ""], 2), (["S", "S"], 1), (["S", "", "S"], 1)):
            with self.assertRaises(BadName) as caught:
                Grammar(1, names, [])
            self.assertEqual(caught.exception.at, at)

    def test_first_bad_rule(self):
        fine = ("S", (1,), ["T"])
        for bad in (("U", (1,), []), ("S", (1,), ["T", "U"]), ("S", (1, 2), []), ("S", (), []), ("", (1,), []),
                    ("S", (1,), [""])):
            for rules, number in (([bad], 0), ([fine, bad, bad], 1), ([fine, fine, bad, fine], 2)):
                with self.assertRaises(BadRule) as caught:
                    Grammar(1, ["S", "T"], rules)
                self.assertEqual(caught.exception.number, number)

    def test_names_come_before_rules(self):
        with self.assertRaises(BadName):
            Grammar(1, ["S", "S"], [("U", (1, 2), ["V"])])

    def test_many_names_and_rules(self):
        names = [f"N{at}" for at in range(800)]
        rules = [(names[at // 2], (at,), [names[-1]] * 100) for at in range(1600)]
        grammar = Grammar(1, names, rules)
        self.assertEqual(grammar.rules_of("N799"), (1598, 1599))
        self.assertEqual(len(grammar.rules), 1600)
