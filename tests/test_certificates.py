import copy
import random
import unittest

from signedpacts.certificates import accepts, certificate
from signedpacts.grammars import Grammar
from signedpacts.least import least_set
from tests.plain_grammars import EXAMPLE, is_right, some_grammar

# The sums of T are 0, 3, 6 .. in the first column; those of S have the rows (1, 2) and (0, 0) besides.
BASE, STEP = [(3, [])], [(3, []), (2, [0])]
PAPER = [
    [
        [[0, 0], [[1, 2], [0, 6]], [[*BASE, (1, [0])], [*STEP, (1, [1])], [*BASE, (1, [0]), (0, [1])]],
         [1, 0, 0], [[-1, 0, 1], [-2, -1, 3]]],
        [[0, 0], [[3, 0]], [BASE, STEP], [1, 0], [[-1, 1]]],
    ],
    [[[1, 0], [[[1, 0], [0, 1]]]], [[0, 0], [[[3, -1]]]], [[1], [[[1]]]], [[0], []]],
]


def in_lists(value):
    return list(map(in_lists, value)) if isinstance(value, (list, tuple)) else value


def places(value, path=()):
    """The paths to all lists, numbers and Nones in a nested list."""
    yield path
    if isinstance(value, list):
        for at, member in enumerate(value):
            yield from places(member, (*path, at))


def at_path(value, path):
    for at in path:
        value = value[at]
    return value


class Certificates(unittest.TestCase):
    def check(self, grammar):
        """The certificate is right, and its sets are the least sets."""
        paper = certificate(grammar)
        self.assertTrue(is_right(grammar, paper))
        self.assertTrue(accepts(grammar, paper))
        self.assertTrue(accepts(grammar, in_lists(paper)))
        for name, entry in zip(grammar.names, paper[0]):
            counts = least_set(grammar, name)
            self.assertEqual((counts.start, counts.steps), (None, ()) if entry is None else entry[:2])
            self.assertTrue(entry is None or all(len(steps) <= 2400 for steps in entry[2]))
        return paper

    def only_tuples(self, value):
        if not isinstance(value, (int, type(None))):
            self.assertIs(type(value), tuple)
            for member in value:
                self.only_tuples(member)

    def test_example(self):
        entries, closures = self.check(EXAMPLE)
        self.assertEqual([entry[:2] for entry in entries], [((0, 0), ((1, 2), (0, 6))), ((0, 0), ((3, 0),))])
        self.assertEqual(closures, (((1, 0), (((1, 0), (0, 1)),)), ((0, 0), (((3, -1),),)), ((1,), (((1,),),)), ((0,), ())))
        self.only_tuples((entries, closures))

    def test_without_rules(self):
        grammar = Grammar(2, ["S", "T"], [])
        self.assertEqual(self.check(grammar), ((None, None), ()))

    def test_without_derivations(self):
        rules = [("S", (1,), ["T"]), ("T", (1,), ["S"]), ("U", (1,), []), ("U", (2,), ["S", "U"]), ("S", (3,), ["U", "T"])]
        entries, closures = self.check(Grammar(1, ["S", "T", "U"], rules))
        self.assertEqual(entries[:2], (None, None))
        self.assertEqual((entries[2][:2], closures), (((1,), ()), (None, None, ((), ()), None, None)))

    def test_without_columns(self):
        entries, closures = self.check(Grammar(0, ["S"], [("S", (), []), ("S", [], ["S", "S"])]))
        self.assertEqual((entries[0][:2], closures), (((), ()), (((), ()), ((), ((), ())))))

    def test_many_small_grammars(self):
        chance = random.Random(1)
        for _ in range(400):
            self.only_tuples(self.check(some_grammar(chance)))

    def test_names_that_lead_to_each_other(self):
        chance = random.Random(2)
        for _ in range(60):
            names = [f"N{at}" for at in range(12)]
            rules = [(name, (0, 0), [names[at - 1]]) for at, name in enumerate(names)]
            rules += [(chance.choice(names), (chance.randint(0, 60), chance.randint(0, 9)),
                       [chance.choice(names) for _ in range(chance.choice([0, 1, 2]))]) for _ in range(10)]
            self.check(Grammar(2, names, rules))

    def test_rows_that_only_tell_a_little_each(self):
        for many in (3, 12):
            rules = [("S", (0, 0), [])] + [("S", (2 ** (many - at), 3 ** at), []) for at in range(many)]
            self.check(Grammar(2, ["S", "T"], [*rules, ("T", (1, 0), ["S", "S"]), ("S", (0, 5), ["T"])]))
        primes = [2, 3, 5, 7, 11, 13]
        rules = [("S", (0,), [])] + [("S", (30030 // prime,), []) for prime in primes]
        self.assertEqual(len(self.check(Grammar(1, ["S"], rules))[0][0][2]), 7)

    def test_as_many_names_as_there_may_be(self):
        names = [f"N{at}" for at in range(800)]
        below = [[names[at + 1], names[min(at + 2, 799)]] for at in range(799)] + [[]]
        ring = [[names[(at + 1) % 800]] for at in range(800)]
        for rules in ([(name, (0, 1), uses) for name, uses in zip(names, below)] + [("N799", (5, 0), [])],
                      [(name, (0, 0), uses) for name, uses in zip(names, ring)] + [("N400", (1, 1), []), ("N7", (0, 3), [])]):
            paper = certificate(Grammar(2, names, rules))
            self.assertTrue(all(len(steps) <= 2400 for entry in paper[0] for steps in entry[2]))
            self.assertTrue(accepts(Grammar(2, names, rules), paper))

    def test_great_numbers(self):
        chance = random.Random(3)
        for _ in range(5):
            rules = [(chance.choice("ST"), [chance.randint(-10 ** 299, 10 ** 299) for _ in range(4)],
                      [chance.choice("ST") for _ in range(chance.choice([0, 0, 2]))]) for _ in range(9)]
            self.check(Grammar(4, ["S", "T"], rules))


class Accepting(unittest.TestCase):
    def refused(self, paper):
        self.assertFalse(is_right(EXAMPLE, paper))
        self.assertFalse(accepts(EXAMPLE, paper))

    def accepted(self, paper):
        self.assertTrue(is_right(EXAMPLE, paper))
        self.assertTrue(accepts(EXAMPLE, paper))

    def changed(self, *changes):
        """The paper with other things at some paths."""
        paper = in_lists(copy.deepcopy(PAPER))
        for path, new in changes:
            at_path(paper, path[:-1])[path[-1]] = new
        return paper

    def test_a_right_paper(self):
        self.accepted(PAPER)
        before = copy.deepcopy(PAPER)
        self.assertTrue(accepts(EXAMPLE, PAPER) and accepts(EXAMPLE, tuple(PAPER)))
        self.assertEqual(PAPER, before)

    def test_other_right_papers(self):
        # One more sum, also the same one again; other factors; steps of derivations that are not used.
        self.accepted(self.changed(((0, 1, 2), [BASE, STEP, BASE]), ((0, 1, 3), [0, 0, 1]), ((0, 1, 4), [[0, 1, -1]])))
        more = [*STEP, (2, [1])]
        self.accepted(self.changed(((0, 1, 2), [STEP, more]), ((0, 1, 3), [2, -1]), ((0, 1, 4), [[-1, 1]])))
        self.accepted(self.changed(((0, 1, 2, 0), [*STEP, (3, [])])))
        long = [(3, [])] + [(2, [at]) for at in range(2498)] + [(3, [])]
        self.accepted(self.changed(((0, 1, 2, 0), long)))
        self.accepted(self.changed(((0, 1, 2), [long[:2499], [*long[:2499], (2, [2498])]]), ((0, 1, 3), [2499, -2498]),
                                   ((0, 1, 4), [[-1, 1]])))

    def test_wrong_numbers_of_entries_and_closures(self):
        entries, closures = PAPER
        for paper in ([entries[:1], closures], [[*entries, None], closures], [entries, closures[:3]],
                      [entries, [*closures, None]], [[], []], [[], closures], [entries, []]):
            self.refused(paper)

    def test_none_at_wrong_places(self):
        self.refused([[None, None], [None] * 4])
        for at in range(2):
            self.refused(self.changed(((0, at), None)))
        for at in range(4):
            self.refused(self.changed(((1, at), None)))
        self.refused(self.changed(((0, 1), None), ((1, 1), None), ((1, 2), None), ((1, 3), None)))
        self.refused(self.changed(((0, 0), None), ((1, 0), None)))
        dead = Grammar(1, ["S", "T"], [("S", (1,), ["T"]), ("T", (1,), [])])
        paper = in_lists(certificate(dead))
        self.assertTrue(accepts(dead, paper))
        paper[0][0] = None
        self.assertFalse(accepts(dead, paper) or is_right(dead, paper))
        none = Grammar(1, ["S"], [("S", (1,), ["S"])])
        self.assertTrue(accepts(none, [[None], [None]]))
        self.assertFalse(accepts(none, [[None], [[[], [[]]]]]))

    def test_forms_that_are_not_the_unique_one(self):
        for path, new in (((0, 1, 0), [3, 0]), ((0, 1, 0), [-3, 0]), ((0, 1, 0), [0]), ((0, 1, 0), [0, 0, 0]),
                          ((0, 1, 0), []), ((0, 1, 1), [[-3, 0]]), ((0, 1, 1), [[6, 0]]), ((0, 1, 1), [[3]]),
                          ((0, 1, 1), []), ((0, 1, 1), [[3, 0], [0, 0]]), ((0, 1, 1), [[0, 0]]), ((0, 1, 1), [[]]),
                          ((0, 0, 1), [[1, 8], [0, 6]]), ((0, 0, 1), [[0, 6], [1, 2]]), ((0, 0, 1), [[1, -4], [0, 6]]),
                          ((0, 0, 1), [[1, 2], [0, -6]]), ((0, 0, 1), [[1, 2], [1, 8]]), ((0, 0, 0), [1, 2])):
            self.refused(self.changed((path, new)))
        # All but the form would be right here.
        self.refused(self.changed(((0, 0, 1), [[1, 2], [2, 10]]), ((0, 0, 4, 1), [-4, -1, 5]),
                                  ((1, 1, 1), [[[5, -1]]])))
        self.refused(self.changed(((0, 1, 0), [3, 0]), ((0, 1, 3), [0, 1]), ((1, 1, 0), [3, -1]), ((1, 3, 0), [-1])))
        self.refused(self.changed(((0, 1, 1), [[-3, 0]]), ((0, 1, 4), [[1, -1]]), ((1, 1, 1), [[[-3, 1]]]),
                                  ((1, 2, 0), [-1])))

    def test_wrong_derivations(self):
        for new in ([], [[(3, [])], []], [[(0, [])]], [[(3, [0])]], [[(3, []), (2, [1])]], [[(3, []), (2, [-1])]],
                    [[(7, [])]], [[(-1, [])]], [[(3, []), (1, [0])], STEP], [BASE, [(3, []), (0, [0])]]):
            self.refused(self.changed(((0, 1, 2), new)))

    def test_wrong_factors(self):
        for path, new in (((0, 1, 3), [1]), ((0, 1, 3), [1, 0, 0]), ((0, 1, 3), []), ((0, 1, 3), [0, 1]),
                          ((0, 1, 3), [2, 0]), ((0, 1, 3), [2, -1]), ((0, 1, 4), []), ((0, 1, 4), [[-1, 1], [0, 0]]),
                          ((0, 1, 4), [[1, -1]]), ((0, 1, 4), [[0, 1]]), ((0, 1, 4), [[-1, 1, 0]]), ((0, 1, 4), [[-1]]),
                          ((0, 1, 4), [[-2, 2]]), ((0, 0, 4, 1), [-2, -2, 4])):
            self.refused(self.changed((path, new)))
        # The rows combine as they should, but the factors are altogether wrong.
        self.refused(self.changed(((0, 1, 3), [5, 0])))
        self.refused(self.changed(((0, 1, 4), [[7, 1]])))

    def test_wrong_closures(self):
        for path, new in (((1, 2, 0), [0]), ((1, 2, 0), []), ((1, 2, 0), [1, 0]), ((1, 2, 0), [-1]), ((1, 2, 1), []),
                          ((1, 2, 1), [[]]), ((1, 2, 1), [[[1], [1]]]), ((1, 2, 1), [[[1]], [[1]]]), ((1, 2, 1), [[[2]]]),
                          ((1, 2, 1), [[[1, 0]]]), ((1, 2, 1), [[[]]]), ((1, 3, 1), [[[1]]]), ((1, 3, 0), []),
                          ((1, 1, 1), [[[3]]]), ((1, 1, 1), [[[3, 1]]]), ((1, 0, 1), [[[0, 1], [1, 0]]])):
            self.refused(self.changed((path, new)))

    def test_too_small_sets(self):
        # Each set is shown by derivations, but the rules lead out of them.
        self.refused(self.changed(((0, 1), [[0, 0], [], [BASE], [1], []]), ((1, 1), [[0, 0], [[]]]),
                                  ((1, 2), [[], [[]]]), ((1, 3), [[], []])))

    def test_the_same_turn_is_given_again(self):
        grammar = Grammar(1, ["S"], [("S", (2,), ["S", "S"]), ("S", (0,), []), ("S", (4,), ["S"])])
        paper = in_lists(certificate(grammar))
        self.assertEqual(paper[1][0][1], [[[1]], [[1]]])
        for path in ((1, 0, 1, 1, 0, 0), (1, 0, 1, 0, 0, 0), (1, 2, 1, 0, 0, 0)):
            wrong = copy.deepcopy(paper)
            at_path(wrong, path[:-1])[path[-1]] = 2
            self.assertFalse(accepts(grammar, wrong) or is_right(grammar, wrong))
            self.assertTrue(accepts(grammar, paper))

    def test_every_change_of_one_number_or_length(self):
        chance = random.Random(4)
        for _ in range(60):
            grammar = some_grammar(chance, names=3, rules=5, width=2)
            paper = in_lists(certificate(grammar))
            for path in list(places(paper))[1:]:
                wrong = copy.deepcopy(paper)
                inside, at = at_path(wrong, path[:-1]), path[-1]
                # The pairs, the entries of five and the steps of derivations keep their lengths.
                fixed = len(path) == 1 or len(path) == 3 or len(path) == 6 and path[0] == 0 and path[2] == 2
                if isinstance(inside[at], int):
                    inside[at] += chance.choice([-2, -1, 1, 2, 10 ** 50])
                elif not fixed:
                    inside[at:at + 1] = chance.choice([[], [copy.deepcopy(inside[at])] * 2])
                self.assertEqual(accepts(grammar, wrong), is_right(grammar, wrong), (path, wrong))


if __name__ == "__main__":
    unittest.main()
