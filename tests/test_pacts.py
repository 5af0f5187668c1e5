import unittest

from signedpacts.errors import BadAmount, BadCount, BadMark, BadPart, BadParty, TooLarge
from signedpacts.pacts import Choice, Endless, Event, Pact, Rounds, Times, Transfer
from signedpacts.parties import PARTIES

GREATEST = 10 ** 60
NO_PARTIES = ("", "g", "A", "ab", "world", " ", "aa", "abcdef", "1")
NO_MARKS = ("", "a", "AB", "1", " ", "world", "ABCDEFGHIJKLMNOPQRSTUVWXYZ")
EMPTY = Pact([])


def events(many):
    """A pact with the weight `many`."""
    return Pact([Event("D")] * many)


def nested(depth):
    """A pact with this depth, from 1 on."""
    pact = Pact([Event("D")])
    while pact.depth < depth:
        pact = Pact([Endless(pact)])
    return pact


class PactTest(unittest.TestCase):
    def raises(self, error, fields, call, *arguments):
        with self.assertRaises(error) as caught:
            call(*arguments)
        self.assertEqual(vars(caught.exception), fields)


class Parts(PactTest):
    def test_parties(self):
        self.assertEqual(PARTIES, "abcdef")

    def test_transfer(self):
        part = Transfer("a", "b", 50)
        self.assertEqual((part.payer, part.payee, part.amount, part.weight, part.depth, part.text, part.KIND),
                         ("a", "b", 50, 1, 1, "ab50", "transfer"))
        self.assertEqual(Transfer("f", "a", 0).text, "fa0")
        self.assertEqual(Transfer("c", "d", GREATEST).text, "cd1" + "0" * 60)

    def test_event(self):
        part = Event("D")
        self.assertEqual((part.mark, part.weight, part.depth, part.text, part.KIND), ("D", 1, 1, "D", "event"))
        self.assertEqual((Event("A").text, Event("Z").text), ("A", "Z"))

    def test_choice(self):
        options = [Pact([Event("D"), Event("E")]), EMPTY, Pact([Times(3, events(2))])]
        part = Choice("b", options)
        self.assertEqual((part.owner, part.weight, part.depth, part.text, part.KIND),
                         ("b", 10, 3, "b(D, E | . | 3(D, D))", "choice"))
        self.assertIs(type(part.options), tuple)
        self.assertEqual(part.options, tuple(options))
        options[0] = EMPTY
        options.append(EMPTY)
        self.assertEqual(part.text, "b(D, E | . | 3(D, D))")
        self.assertEqual([option.text for option in part.options], ["D, E", ".", "3(D, D)"])
        small = Choice("c", (EMPTY, EMPTY))
        self.assertEqual((small.weight, small.depth, small.text), (1, 1, "c(. | .)"))
        self.assertEqual(Choice("a", [EMPTY] * 6).text, "a(. | . | . | . | . | .)")

    def test_rounds(self):
        body = Pact([Transfer("a", "b", 1), Event("D")])
        part = Rounds("a", body)
        self.assertEqual((part.owner, part.weight, part.depth, part.text, part.KIND), ("a", 3, 2, "a[ab1, D]", "rounds"))
        self.assertIs(part.body, body)
        self.assertEqual((Rounds("f", EMPTY).weight, Rounds("f", EMPTY).depth, Rounds("f", EMPTY).text), (1, 1, "f[.]"))

    def test_endless(self):
        body = Pact([Transfer("c", "d", 1), Transfer("d", "c", 1)])
        part = Endless(body)
        self.assertEqual((part.weight, part.depth, part.text, part.KIND), (3, 2, "[cd1, dc1]", "endless"))
        self.assertIs(part.body, body)
        self.assertEqual((Endless(EMPTY).weight, Endless(EMPTY).depth, Endless(EMPTY).text), (1, 1, "[.]"))

    def test_times(self):
        body = Pact([Transfer("b", "a", 1), Event("E")])
        part = Times(3, body)
        self.assertEqual((part.count, part.weight, part.depth, part.text, part.KIND), (3, 7, 2, "3(ba1, E)", "times"))
        self.assertIs(part.body, body)
        # Without a round the weight of the body counts once.
        self.assertEqual([Times(count, body).weight for count in (0, 1, 2, 100)], [3, 3, 5, 201])
        self.assertEqual([Times(count, EMPTY).weight for count in (0, 1, 100)], [1, 1, 1])
        self.assertEqual((Times(0, EMPTY).text, Times(100, EMPTY).text, Times(0, EMPTY).depth), ("0(.)", "100(.)", 1))

    def test_kinds_of_the_classes(self):
        self.assertEqual([kind.KIND for kind in (Transfer, Event, Choice, Rounds, Endless, Times)],
                         ["transfer", "event", "choice", "rounds", "endless", "times"])

    def test_parts_are_not_compared(self):
        for one, other in ((Transfer("a", "b", 1), Transfer("a", "b", 1)), (Event("D"), Event("D")),
                           (Choice("a", [EMPTY, EMPTY]), Choice("a", [EMPTY, EMPTY])), (Times(1, EMPTY), Times(1, EMPTY)),
                           (Rounds("a", EMPTY), Rounds("a", EMPTY)), (Endless(EMPTY), Endless(EMPTY))):
            self.assertFalse(one == other)
            self.assertTrue(one == one)
            self.assertEqual(one.text, other.text)


class PartErrors(PactTest):
    def test_bad_parties(self):
        for party in NO_PARTIES:
            bad = {"party": party}
            self.raises(BadParty, bad, Transfer, party, party, -1)
            self.raises(BadParty, bad, Transfer, "a", party, -1)
            self.raises(BadParty, bad, Choice, party, [])
            self.raises(BadParty, bad, Rounds, party, None)
        self.raises(BadParty, {"party": "a"}, Transfer, "a", "a", -1)
        self.raises(BadParty, {"party": "g"}, Transfer, "g", "h", 1)
        self.raises(BadParty, {"party": "h"}, Transfer, "a", "h", 1)

    def test_bad_amounts(self):
        for amount in (-1, GREATEST + 1, -GREATEST, 10 ** 200):
            self.raises(BadAmount, {"value": amount}, Transfer, "a", "b", amount)

    def test_bad_marks(self):
        for mark in NO_MARKS:
            self.raises(BadMark, {"mark": mark}, Event, mark)

    def test_bad_numbers_of_options(self):
        for many in (0, 1, 7, 20):
            self.raises(BadCount, {"value": many}, Choice, "a", [EMPTY] * many)
            self.raises(BadCount, {"value": many}, Choice, "a", ["no pact"] * many)

    def test_bad_counts(self):
        for count in (-1, 101, 10 ** 100):
            self.raises(BadCount, {"value": count}, Times, count, EMPTY)
            self.raises(BadCount, {"value": count}, Times, count, "no pact")
        self.raises(BadCount, {"value": 101}, Times, 101, events(400))

    def test_bad_options_and_bodies(self):
        for value in (None, "D", 5, [], (Event("D"),), Event("D"), Choice("a", [EMPTY, EMPTY])):
            bad = {"value": value}
            self.raises(BadPart, bad, Choice, "a", [value, EMPTY])
            self.raises(BadPart, bad, Choice, "a", [EMPTY, value, "later"])
            self.raises(BadPart, bad, Choice, "a", [events(400), value])
            self.raises(BadPart, bad, Rounds, "a", value)
            self.raises(BadPart, bad, Endless, value)
            self.raises(BadPart, bad, Times, 2, value)

    def test_weights(self):
        for make in (lambda body: Rounds("a", body), Endless, lambda body: Times(1, body), lambda body: Times(0, body),
                     lambda body: Choice("a", [body, EMPTY])):
            self.assertEqual(make(events(399)).weight, 400)
            self.raises(TooLarge, {"weight": 401, "depth": 2}, make, events(400))
        self.assertEqual(Times(3, events(133)).weight, 400)
        self.raises(TooLarge, {"weight": 401, "depth": 2}, Times, 100, events(4))
        self.raises(TooLarge, {"weight": 40001, "depth": 2}, Times, 100, events(400))
        self.assertEqual(Choice("a", [events(199), events(200)]).weight, 400)
        self.raises(TooLarge, {"weight": 401, "depth": 2}, Choice, "a", [events(200), events(200)])
        self.raises(TooLarge, {"weight": 2401, "depth": 2}, Choice, "a", [events(400)] * 6)

    def test_depths(self):
        for make in (lambda body: Rounds("a", body), Endless, lambda body: Times(1, body),
                     lambda body: Choice("a", [EMPTY, body])):
            self.assertEqual(make(nested(29)).depth, 30)
            self.raises(TooLarge, {"weight": 31, "depth": 31}, make, nested(30))
        self.raises(TooLarge, {"weight": 3001, "depth": 31}, Times, 100, nested(30))


class Pacts(PactTest):
    def test_empty_pact(self):
        for pact in (Pact([]), Pact(())):
            self.assertEqual((pact.parts, pact.weight, pact.depth, pact.text, len(pact)), ((), 0, 0, ".", 0))

    def test_written_form(self):
        parts = [Transfer("a", "b", 5), Choice("b", [Pact([Event("D"), Transfer("b", "a", 2)]), EMPTY]),
                 Rounds("a", Pact([Transfer("a", "b", 1), Event("D")])), Times(3, Pact([Transfer("b", "a", 1)])),
                 Endless(Pact([Transfer("c", "d", 1), Transfer("d", "c", 1)]))]
        pact = Pact(parts)
        self.assertEqual(pact.text, "ab5, b(D, ba2 | .), a[ab1, D], 3(ba1), [cd1, dc1]")
        self.assertEqual((pact.parts, pact.weight, pact.depth), (tuple(parts), 14, 2))
        self.assertIs(type(pact.parts), tuple)
        parts.append(Event("E"))
        self.assertEqual(len(pact), 5)

    def test_the_same_part_in_several_places(self):
        part = Rounds("a", events(1))
        pact = Pact([part, part, Rounds("b", Pact([part]))])
        self.assertEqual(pact.text, "a[D], a[D], b[a[D]]")
        self.assertEqual((pact.weight, pact.depth), (7, 3))

    def test_bad_parts(self):
        for value in (None, "D", 5, [Event("D")], EMPTY, events(2)):
            self.raises(BadPart, {"value": value}, Pact, [value])
            self.raises(BadPart, {"value": value}, Pact, [Event("D"), value, "later"])
            self.raises(BadPart, {"value": value}, Pact, [Event("D")] * 401 + [value])

    def test_sizes(self):
        self.assertEqual((events(400).weight, events(400).depth), (400, 1))
        self.raises(TooLarge, {"weight": 401, "depth": 1}, Pact, [Event("D")] * 401)
        self.assertEqual(nested(30).depth, 30)
        self.raises(TooLarge, {"weight": 430, "depth": 30}, Pact, [Event("D")] * 400 + list(nested(30)))

    def test_sum(self):
        one, other = Pact([Event("D"), Event("E")]), Pact([Transfer("a", "b", 1)])
        self.assertEqual((one + other).text, "D, E, ab1")
        self.assertEqual((other + one).parts, other.parts + one.parts)
        self.assertEqual(((one + EMPTY).text, (EMPTY + one).text, (EMPTY + EMPTY).text), ("D, E", "D, E", "."))
        self.assertEqual((one.text, other.text), ("D, E", "ab1"))
        self.assertEqual((events(200) + events(200)).weight, 400)
        self.raises(TooLarge, {"weight": 401, "depth": 1}, lambda: events(200) + events(201))
        for value in (None, "D", 5, [], (Event("D"),), Event("D")):
            self.raises(BadPart, {"value": value}, lambda: one + value)

    def test_product(self):
        one = Pact([Event("D"), Event("E")])
        self.assertEqual([(one * n).text for n in (0, 1, 7, 100)], ["0(D, E)", "1(D, E)", "7(D, E)", "100(D, E)"])
        self.assertEqual([(part.KIND, part.count, part.body) for part in one * 7], [("times", 7, one)])
        self.assertEqual(((one * 7).weight, (one * 7).depth, one.text), (15, 2, "D, E"))
        for n in (-1, 101):
            self.raises(BadCount, {"value": n}, lambda: one * n)
            self.raises(BadCount, {"value": n}, lambda: events(400) * n)
        self.raises(TooLarge, {"weight": 401, "depth": 2}, lambda: events(4) * 100)
        self.raises(TooLarge, {"weight": 31, "depth": 31}, lambda: nested(30) * 1)

    def test_as_a_sequence(self):
        parts = [Event(mark) for mark in "ABCDE"]
        pact = Pact(parts)
        self.assertEqual((len(pact), list(pact), [part.text for part in pact]), (5, parts, list("ABCDE")))
        self.assertTrue(all(pact[at] is parts[at] for at in range(-5, 5)))
        for low in (None, -9, -2, 0, 1, 4, 5, 9):
            for high in (None, -9, -2, 0, 1, 4, 5, 9):
                self.assertIs(type(pact[low:high]), tuple)
                self.assertEqual(pact[low:high], tuple(parts)[low:high])
        self.assertEqual((pact[::-2], EMPTY[:], EMPTY[3:8], list(EMPTY)), (tuple(parts)[::-2], (), (), []))

    def test_equal(self):
        one = Pact([Times(2, Pact([Choice("a", [EMPTY, events(1)])]))])
        self.assertTrue(one == Pact([Times(2, Pact([Choice("a", [Pact(()), Pact([Event("D")])])]))]))
        self.assertFalse(one != Pact([Choice("a", [EMPTY, events(1)])]) * 2)
        for other in (EMPTY, events(1), Pact([Choice("a", [EMPTY, events(1)])]), one * 2, one.text, one.parts, None):
            self.assertFalse(one == other)
            self.assertTrue(one != other)
        self.assertFalse(EMPTY == ())
        self.assertFalse(Pact([Rounds("a", EMPTY)]) == Pact([Endless(EMPTY)]))


if __name__ == "__main__":
    unittest.main()
