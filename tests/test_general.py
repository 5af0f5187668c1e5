"""The general rules of [2]: arguments, results and repeated questions."""
import copy
import unittest

from signedpacts.claims import keeps
from signedpacts.countsets import CountSet
from signedpacts.errors import BadRow, BadRule, BadWidth
from signedpacts.grammars import Grammar
from signedpacts.machines import Machine
from signedpacts.rows import combine
from signedpacts.stairs import remainder, staircase


def in_tuples(value):
    """The value with tuples in place of lists, at every level."""
    return tuple(map(in_tuples, value)) if isinstance(value, (list, tuple)) else value


def in_lists(value):
    """The value with lists in place of tuples, at every level."""
    return list(map(in_lists, value)) if isinstance(value, (list, tuple)) else value


def machine_fields(letters, rows, good):
    machine = Machine(letters, rows, good)
    return machine.letters, machine.rows, machine.good


def set_fields(counts):
    return counts.width, counts.start, counts.steps, counts.claims()


def grammar_fields(width, names, rules):
    grammar = Grammar(width, names, rules)
    return grammar.names, grammar.rules, grammar.rules_of(names[0])


CALLS = [
    (machine_fields, ["ab", [[1, 2], [None, 1], [2, 0]], [2, 1]]),
    (lambda rows, factors: combine(rows, factors, width=2), [[[1, 2], [3, 4]], [5, -6]]),
    (keeps, [[1, 2], [[3, 4], 5, 6]]),
    (lambda rows: staircase(rows, width=3), [[[4, 6, 1], [2, 0, 5], [-2, 6, -4]]]),
    (remainder, [[7, -8], [[2, 1], [0, 3]]]),
    (lambda start, steps: set_fields(CountSet(2, start=start, steps=steps)), [[7, -8], [[4, 2], [0, 3], [2, 2]]]),
    (lambda rows: set_fields(CountSet.around(2, rows)), [[[1, 1], [4, 2], [0, -9]]]),
    (lambda row: CountSet(2, start=[1, 1], steps=[[2, 0]]).coordinates(row), [[5, 1]]),
    (lambda row: row in CountSet(2, start=[1, 1], steps=[[2, 0]]), [[5, 1]]),
    (lambda claim: CountSet(2, start=[1, 1], steps=[[2, 0]]).holds(claim), [[[1, 1], 0, 2]]),
    (grammar_fields, [2, ["S", "T"], [["S", [1, 2], ["S", "T"]], ["T", [0, 0], []], ["S", [3, 4], []]]]),
]


class GeneralRules(unittest.TestCase):
    def only_tuples(self, value):
        if not isinstance(value, (int, str, type(None))):
            self.assertIs(type(value), tuple)
            for member in value:
                self.only_tuples(member)

    def test_lists_and_tuples_are_alike(self):
        for call, arguments in CALLS:
            self.assertEqual(call(*in_tuples(arguments)), call(*in_lists(arguments)))

    def test_every_sequence_in_a_result_is_a_tuple(self):
        for call, arguments in CALLS:
            self.only_tuples(call(*in_lists(arguments)))

    def test_arguments_are_not_changed(self):
        for call, arguments in CALLS:
            before = copy.deepcopy(arguments)
            first = call(*arguments)
            self.assertEqual(arguments, before)
            self.assertEqual(call(*arguments), first)

    def test_arguments_are_not_changed_by_errors(self):
        rows, steps, rules = [[0, 1], [5]], [[1, 2], [3]], [["S", [1, 2], ["U"]]]
        before = copy.deepcopy([rows, steps, rules])
        for error, call in ((BadRow, lambda: Machine("ab", rows, [0])), (BadRule, lambda: Grammar(2, ["S"], rules)),
                            (BadWidth, lambda: CountSet(2, start=[0, 0], steps=steps)),
                            (BadWidth, lambda: CountSet.around(2, steps))):
            for _ in range(2):
                self.assertRaises(error, call)
        self.assertEqual([rows, steps, rules], before)

    def test_later_changes_of_a_machines_arguments(self):
        rows, good = [[1, 0], [None, 1]], [1]
        machine = Machine("ab", rows, good)
        rows[0][0] = None
        rows.append([0, 0])
        good.clear()
        self.assertEqual((machine.rows, machine.good, "a" in machine), (((1, 0), (None, 1)), (1,), True))

    def test_later_changes_of_a_count_sets_arguments(self):
        start, steps = [1, 1], [[2, 0]]
        counts = CountSet(2, start=start, steps=steps)
        start[0], steps[0][0] = 100, 100
        steps.append([0, 1])
        self.assertEqual((counts.start, counts.steps), ((1, 1), ((2, 0),)))
        rows = [[1, 1], [3, 1]]
        around = CountSet.around(2, rows)
        rows[1][0] = 2
        self.assertEqual(around, counts)

    def test_later_changes_of_a_grammars_arguments(self):
        names, rules = ["S", "T"], [["S", [1], ["T"]]]
        grammar = Grammar(1, names, rules)
        names.append("U")
        rules[0][1][0] = 9
        rules[0][2].append("S")
        rules.append(["T", [0], []])
        self.assertEqual((grammar.names, grammar.rules), (("S", "T"), (("S", (1,), ("T",)),)))
        self.assertEqual(grammar.rules_of("T"), ())

    def test_operators_and_methods_change_nothing(self):
        one, other = Machine("ab", [[1, 0], [None, 1]], [1]), Machine("ab", [[0, None]])
        before = [(m.letters, m.rows, m.good) for m in (one, other)]
        for _ in range(2):
            results = [one & other, one | other, one - other, ~one, one >> other, one.rounds(), one.beginnings(),
                       one.unending(), one.after("ab"), one.first_text(), one.how_many(5), list(one.texts(5))]
            self.assertEqual(results, [one & other, one | other, one - other, ~one, one >> other, one.rounds(),
                                       one.beginnings(), one.unending(), one.after("ab"), one.first_text(),
                                       one.how_many(5), list(one.texts(5))])
            self.assertEqual([(m.letters, m.rows, m.good) for m in (one, other)], before)

    def test_operators_and_methods_of_count_sets_change_nothing(self):
        one, other = CountSet(1, start=(1,), steps=[(4,)]), CountSet(1, start=(2,), steps=[(6,)])
        before = [set_fields(one), set_fields(other)]
        for _ in range(2):
            results = [one + other, one | other, one * 3, one.rounds(), one.within(other), one.claims()]
            self.assertEqual(results, [one + other, one | other, one * 3, one.rounds(), one.within(other),
                                       one.claims()])
            self.assertEqual([set_fields(one), set_fields(other)], before)

    def test_two_generators_at_once(self):
        machine = Machine("ab", [[0, 0]])
        one, other = machine.texts(2), machine.texts(2)
        self.assertEqual([next(one), next(one), next(other), next(one), next(other)], ["aa", "ab", "aa", "ba", "ab"])
