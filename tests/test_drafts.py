import random
import time
import unittest

from signedpacts.drafts import Draft
from signedpacts.errors import BadClause, BadParty, BadText, Missing, SameLabel, TooLarge, UnknownLabel
from tests.plain_drafts import (NO_CLAUSES, plain_clauses, plain_order, plain_resting, plain_text, plain_versions,
                                some_amendments)
from tests.raising import Raising

FIRST = ("add", (1, "a"), None, "ab5")
SECOND = ("add", (2, "b"), None, "D")
BEHIND = ("add", (3, "a"), (1, "a"), "ba1")
CHANGE = ("change", (4, "a"), ((1, "a"),), "ab6")
OTHER = ("change", (4, "b"), ((1, "a"),), "ab7")
BOTH = ("change", (5, "a"), ((4, "a"), (4, "b")), "ab8")
STRIKE = ("strike", (6, "a"), (1, "a"))


def told(draft):
    return draft.amendments, draft.order(), draft.contested(), draft.clauses(), draft.pact().text


class Drafts(Raising):
    def test_the_empty_draft(self):
        empty = Draft([])
        self.assertEqual(told(empty), ((), (), (), (), "."))
        self.assertEqual((empty, empty | empty, empty.next_label("f")), (Draft(()), empty, (1, "f")))

    def test_amendments_in_any_order_and_several_times(self):
        draft = Draft([BEHIND, FIRST, SECOND, FIRST, BEHIND])
        self.assertEqual(draft.amendments, (FIRST, SECOND, BEHIND))
        self.assertEqual(draft.pact().text, "D, ab5, ba1")
        in_lists = Draft([["add", [3, "a"], [1, "a"], "ba1"], list(FIRST), ["add", [2, "b"], None, "D"], FIRST])
        self.assertEqual((in_lists, told(in_lists)), (draft, told(draft)))
        self.assertEqual(Draft([["change", [4, "a"], [[1, "a"]], "ab6"], FIRST, CHANGE]).amendments, (FIRST, CHANGE))

    def test_siblings(self):
        self.assertEqual(Draft([FIRST, SECOND]).order(), ((2, "b"), (1, "a")))
        more = [("add", (3, "a"), (1, "a"), "E"), ("add", (3, "b"), (1, "a"), "F"), ("add", (4, "c"), (3, "a"), "G")]
        self.assertEqual(Draft([FIRST, SECOND, *more]).order(), ((2, "b"), (1, "a"), (3, "b"), (3, "a"), (4, "c")))

    def test_versions(self):
        self.assertEqual(Draft([FIRST, CHANGE]).clauses(), (((1, "a"), "ab6"),))
        several = Draft([FIRST, CHANGE, OTHER])
        self.assertEqual((several.clauses(), several.contested()), ((((1, "a"), "ab7"),), ((1, "a"),)))
        joined = Draft([FIRST, CHANGE, OTHER, BOTH])
        self.assertEqual((joined.clauses(), joined.contested()), ((((1, "a"), "ab8"),), ()))
        # A version that was replaced already can be replaced again, also beside the one that replaces it.
        again = Draft([FIRST, CHANGE, ("change", (5, "b"), ((1, "a"), (4, "a")), "ab9"), ("change", (6, "b"), ((1, "a"),), "D")])
        self.assertEqual((again.clauses(), again.contested()), ((((1, "a"), "D"),), ((1, "a"),)))

    def test_changed_and_struck_out(self):
        for amendments in ([FIRST, CHANGE, OTHER, STRIKE], [FIRST, STRIKE, ("change", (7, "a"), ((1, "a"),), "E")],
                           [FIRST, STRIKE, ("strike", (6, "b"), (1, "a"))]):
            draft = Draft([*amendments, SECOND])
            self.assertEqual((draft.order(), draft.clauses(), draft.pact().text),
                             (((2, "b"), (1, "a")), (((2, "b"), "D"),), "D"))
        self.assertEqual(Draft([FIRST, CHANGE, OTHER, STRIKE]).contested(), ((1, "a"),))
        # What stands behind a clause that is struck out stays.
        self.assertEqual(Draft([FIRST, BEHIND, STRIKE]).pact().text, "ba1")

    def test_texts_as_they_were_passed(self):
        draft = Draft([("add", (1, "a"), None, "  ab5,D "), ("add", (2, "a"), (1, "a"), ".")])
        self.assertEqual((draft.clauses(), draft.pact().text), ((((1, "a"), "  ab5,D "), ((2, "a"), ".")), "ab5, D"))

    def test_random_drafts(self):
        chance = random.Random(131)
        seen = {}
        for _ in range(400):
            amendments = some_amendments(chance, chance.randint(0, 25))
            draft = Draft(chance.sample(amendments, len(amendments)) + chance.choices(amendments, k=3 if amendments else 0))
            self.assertEqual(draft.amendments, tuple(sorted(amendments, key=lambda one: one[1])))
            order = plain_order(amendments)
            contested = [label for label in sorted(order) if len(plain_versions(amendments, label)) > 1]
            self.assertEqual(told(draft)[1:], (order, tuple(contested), plain_clauses(amendments), plain_text(amendments)))
            for one in amendments:
                resting = plain_resting(amendments, one[1])
                self.assertEqual(draft.resting(one[1]), resting)
                rest = [other for other in amendments if other[1] not in resting]
                self.assertEqual(draft.without(list(one[1])).amendments, Draft(rest).amendments)
            seen[bool(contested)] = seen.get(bool(contested), 0) + 1
        self.assertGreater(min(seen.values()), 50)

    def test_later_amendments_keep_the_order(self):
        chance = random.Random(132)
        for _ in range(150):
            amendments = some_amendments(chance, 20)
            before = ()
            for many in range(len(amendments) + 1):
                order = Draft(amendments[:many]).order()
                self.assertEqual(tuple(label for label in order if label in before), before)
                before = order

    def test_many_amendments(self):
        began = time.monotonic()
        line = [("add", (1, "a"), None, "D")] + [("add", (at + 1, "a"), (at, "a"), ".") for at in range(1, 3000)]
        self.assertEqual(Draft(line).order(), tuple((at, "a") for at in range(1, 3001)))
        self.assertEqual(len(Draft(line).resting((1000, "a"))), 2001)
        self.assertEqual(Draft(line).without((2, "a")).pact().text, "D")
        self.assertLess(time.monotonic() - began, 10)

    def test_labels(self):
        draft = Draft([FIRST, BEHIND, ("add", (10 ** 9, "f"), None, "D")])
        self.assertEqual([draft.next_label(party) for party in "af"], [(10 ** 9 + 1, "a"), (10 ** 9 + 1, "f")])
        label = draft.next_label("a")
        more = draft | Draft([("add", label, None, "E")])
        self.assertEqual((more.order()[0], more.next_label("b")), (label, (10 ** 9 + 2, "b")))
        self.assertEqual(Draft([FIRST]).next_label("a"), (2, "a"))
        for party in ("", "g", "A", "ab"):
            self.raises(BadParty, {"party": party}, draft.next_label, party)

    def test_later_changes_of_the_arguments(self):
        versions, label = [[1, "a"]], [4, "a"]
        given = [list(FIRST), ["change", label, versions, "ab6"]]
        draft = Draft(given)
        before = told(draft)
        versions.append([2, "b"])
        label[0] = 9
        given[0][3] = "E"
        given.clear()
        self.assertEqual((told(draft), draft.amendments), (before, (FIRST, CHANGE)))


class Operators(Raising):
    def test_joined(self):
        one, other = Draft([FIRST, CHANGE]), Draft([FIRST, OTHER, SECOND])
        self.assertEqual((one | other).amendments, (FIRST, SECOND, CHANGE, OTHER))
        self.assertEqual(one | other, other | one)
        self.assertEqual(((one | one), one | Draft([])), (one, one))
        self.assertEqual((one.amendments, other.amendments), ((FIRST, CHANGE), (FIRST, SECOND, OTHER)))

    def test_joined_by_chance(self):
        chance = random.Random(133)
        for _ in range(100):
            amendments = some_amendments(chance, 15)
            whole = Draft(amendments)
            one, other = (whole.without(chance.choice(amendments)[1]) for _ in range(2))
            joined = one | other
            wanted = [each for each in whole.amendments if each in one.amendments + other.amendments]
            self.assertEqual((joined.amendments, told(joined)), (tuple(wanted), told(Draft(wanted))))

    def test_equal_drafts(self):
        self.assertEqual(Draft([FIRST, SECOND]), Draft([SECOND, FIRST, SECOND]))
        self.assertNotEqual(Draft([FIRST]), Draft([FIRST, SECOND]))
        self.assertNotEqual(Draft([FIRST]), Draft([(*FIRST[:3], "ab5 ")]))
        for other in (None, (), 0, ((FIRST,),)):
            self.assertFalse(Draft([FIRST]) == other)

    def test_the_same_label(self):
        self.raises(SameLabel, {"label": (1, "a")}, lambda: Draft([FIRST]) | Draft([(*FIRST[:3], "ab6")]))
        one = Draft([FIRST, SECOND, ("add", (3, "a"), None, "E"), ("add", (4, "a"), None, "E")])
        other = Draft([SECOND, FIRST, BEHIND, ("strike", (4, "a"), (1, "a"))])
        for call in (lambda: one | other, lambda: other | one):
            self.raises(SameLabel, {"label": (3, "a")}, call)

    def test_unknown_labels(self):
        draft = Draft([FIRST, CHANGE])
        for label in ((2, "a"), (1, "b"), (10 ** 9, "f"), [1, "b"]):
            for call in (draft.resting, draft.without):
                self.raises(UnknownLabel, {"label": tuple(label)}, call, label)
                self.raises(UnknownLabel, {"label": tuple(label)}, getattr(Draft([]), call.__name__), label)
        self.assertEqual(draft.resting([4, "a"]), ((4, "a"),))


class Errors(Raising):
    def test_the_same_label_comes_first(self):
        bad = [("strike", (2, "a"), (9, "a")), ("add", (3, "a"), None, "x"), ("add", (5, "a"), None, "D")]
        self.raises(SameLabel, {"label": (5, "a")}, Draft, [*bad, ("add", (5, "a"), None, "E")])
        self.raises(SameLabel, {"label": (3, "a")}, Draft, [("add", (5, "a"), None, "E"), *bad, ("strike", (3, "a"), (1, "a"))])
        # The order of the versions makes a difference, too.
        turned = ("change", (5, "a"), ((4, "b"), (4, "a")), "ab8")
        self.raises(SameLabel, {"label": (5, "a")}, Draft, [FIRST, CHANGE, OTHER, BOTH, turned])

    def test_missing(self):
        for amendments, label in (
                ([BEHIND], (3, "a")), ([CHANGE], (4, "a")), ([STRIKE], (6, "a")),
                # Not a smaller label: a greater one, the own one, the same number with an earlier party.
                ([("add", (1, "b"), (2, "a"), "D"), ("add", (2, "a"), None, "D")], (1, "b")),
                ([("add", (1, "a"), (1, "a"), "D")], (1, "a")), ([("strike", (1, "a"), (1, "a"))], (1, "a")),
                ([("change", (1, "a"), ((1, "a"),), "D")], (1, "a")),
                ([("add", (1, "a"), (1, "b"), "D"), ("add", (1, "b"), None, "D")], (1, "a")),
                # Not an amendment that adds a clause.
                ([FIRST, CHANGE, ("add", (5, "a"), (4, "a"), "D")], (5, "a")),
                ([FIRST, CHANGE, ("strike", (5, "a"), (4, "a"))], (5, "a")),
                ([FIRST, STRIKE, ("add", (7, "a"), (6, "a"), "D")], (7, "a")),
                ([FIRST, STRIKE, ("strike", (7, "a"), (6, "a"))], (7, "a")),
                # Not versions of one clause.
                ([FIRST, STRIKE, ("change", (7, "a"), ((6, "a"),), "D")], (7, "a")),
                ([FIRST, STRIKE, ("change", (7, "a"), ((1, "a"), (6, "a")), "D")], (7, "a")),
                ([FIRST, SECOND, ("change", (7, "a"), ((1, "a"), (2, "b")), "D")], (7, "a")),
                ([FIRST, SECOND, CHANGE, ("change", (7, "a"), ((2, "b"), (4, "a")), "D")], (7, "a")),
                ([FIRST, ("change", (7, "a"), ((1, "a"), (9, "a")), "D")], (7, "a")),
                # The least label.
                ([STRIKE, CHANGE, OTHER], (4, "a"))):
            self.raises(Missing, {"label": label}, Draft, amendments)
            self.raises(Missing, {"label": label}, Draft, [*amendments[::-1], ("add", (1, "c"), None, "no pact")])
        self.assertEqual(Draft([("add", (1, "a"), None, "D"), ("add", (1, "b"), (1, "a"), "E")]).pact().text, "D, E")

    def test_bad_clauses(self):
        for text in NO_CLAUSES:
            error = self.raises(BadClause, {"label": (4, "a")}, Draft, [FIRST, (*CHANGE[:3], text), ("add", (5, "a"), None, "")])
            self.assertIsInstance(error.__cause__, BadText)
            self.raises(BadClause, {"label": (1, "a")}, Draft, [(*FIRST[:3], text), CHANGE])
        self.assertEqual(self.raises(BadClause, {"label": (1, "a")}, Draft, [(*FIRST[:3], "ab5, b(D)")]).__cause__.at, 8)
        # Texts of versions that do not stand, and of clauses that are struck out, are looked at, too.
        self.raises(BadClause, {"label": (1, "a")}, Draft, [(*FIRST[:3], "?"), CHANGE, STRIKE])
        self.raises(BadClause, {"label": (1, "a")}, Draft, [["add", [1, "a"], None, "?"]])

    def test_a_pact_that_is_too_large(self):
        heavy = Draft([("add", (at, "a"), None, "100(D)") for at in range(1, 5)])
        self.raises(TooLarge, {"weight": 404, "depth": 2}, heavy.pact)
        self.assertEqual(heavy.without((4, "a")).pact().weight, 303)
        self.assertEqual(len(heavy.clauses()), 4)
        deep = "[" * 29 + "D" + "]" * 29
        heavy = Draft([("add", (at, "a"), None, deep) for at in range(1, 15)])
        self.raises(TooLarge, {"weight": 420, "depth": 30}, heavy.pact)


if __name__ == "__main__":
    unittest.main()
