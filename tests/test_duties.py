import itertools
import unittest

from signedpacts.duties import answered, at_most, never, only_after
from signedpacts.errors import BadCount, BadLetters, BadMark
from signedpacts.machines import Machine
from tests.plain_duties import NO_MARKS


class Duties(unittest.TestCase):
    def raises(self, error, fields, call, *arguments):
        with self.assertRaises(error) as caught:
            call(*arguments)
        self.assertEqual(vars(caught.exception), fields)

    def same(self, duty, letters, keeps):
        self.assertIs(type(duty), Machine)
        self.assertEqual(duty.letters, letters)
        for many in range(6):
            for text in map("".join, itertools.product(letters, repeat=many)):
                self.assertEqual(text in duty, keeps(text), text)

    def test_never(self):
        for letters in ("D", "DE", "EDF"):
            self.same(never(letters, "D"), letters, lambda text: "D" not in text)

    def test_only_after(self):
        for letters, mark, earlier in (("DE", "D", "E"), ("DE", "E", "D"), ("FED", "E", "F"), ("D", "D", "D"), ("DE", "E", "E")):
            self.same(only_after(letters, mark, earlier), letters,
                      lambda text: all(earlier in text[:at] for at, one in enumerate(text) if one == mark))

    def test_answered(self):
        for letters, mark, answer in (("DE", "D", "E"), ("DE", "E", "D"), ("FED", "E", "F"), ("D", "D", "D"), ("DE", "E", "E")):
            self.same(answered(letters, mark, answer), letters,
                      lambda text: all(answer in text[at + 1:] for at, one in enumerate(text) if one == mark))

    def test_at_most(self):
        for times in (0, 1, 2, 4):
            self.same(at_most("DE", "D", times), "DE", lambda text: text.count("D") <= times)
            self.same(at_most("E", "E", times), "E", lambda text: len(text) <= times)
        nine = at_most("ABCDEF", "F", 9)
        self.assertTrue("F" * 9 in nine and "FA" * 9 in nine and "F" * 10 not in nine)

    def test_errors_in_their_order(self):
        calls = [lambda letters, mark, other=None, times=0: never(letters, mark),
                 lambda letters, mark, other="D", times=0: only_after(letters, mark, other),
                 lambda letters, mark, other="D", times=0: answered(letters, mark, other),
                 lambda letters, mark, other=None, times=0: at_most(letters, mark, times)]
        for call in calls:
            for letters in ("", "DD", "DaD", "xx"):
                self.raises(BadLetters, {"letters": letters}, call, letters, "a", "b", 10)
            self.raises(BadMark, {"mark": "x"}, call, "Dxy", "a", "b", 10)
            self.raises(BadMark, {"mark": "%"}, call, "%D", "D", "D", 0)
            for mark in NO_MARKS + ("F", "DE", "ED"):
                self.raises(BadMark, {"mark": mark}, call, "DE", mark, "x", -1)
        for call in calls[1:3]:
            for other in NO_MARKS + ("F", "DE"):
                self.raises(BadMark, {"mark": other}, call, "DE", "D", other)
        for times in (-1, 10, 10 ** 100, -10 ** 100):
            self.raises(BadCount, {"value": times}, at_most, "DE", "D", times)


if __name__ == "__main__":
    unittest.main()
