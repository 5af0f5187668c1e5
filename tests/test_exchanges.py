import random
import unittest

from signedpacts.errors import BadBit, BadEnd, BadFate
from signedpacts.exchanges import Exchange, alike
from tests.plain import all_texts
from tests.plain_notices import ENDS, FATES, plain_view
from tests.raising import Raising

NO_ENDS = ("", "First", "third", "firstsecond", " first", "s", "a")


class Exchanges(Raising):
    def test_fields(self):
        one = Exchange(1, 0, "bfsn")
        self.assertEqual((one.first_bit, one.second_bit, one.fates, len(one)), (1, 0, "bfsn", 4))
        self.assertEqual(len(Exchange(0, 0, "")), 0)
        self.assertEqual(len(Exchange(0, 0, "n" * 60)), 60)

    def test_equal_exchanges(self):
        every = [Exchange(first, second, fates) for first in (0, 1) for second in (0, 1) for fates in all_texts(FATES, 2)]
        for at, one in enumerate(every):
            for place, other in enumerate(every):
                self.assertEqual(one == other, at == place)
        self.assertEqual(Exchange(0, 1, "bs"), Exchange(0, 1, "bs"))
        for other in (None, (0, 1, "bs"), "bs", 0):
            self.assertFalse(Exchange(0, 1, "bs") == other)

    def test_errors_in_their_order(self):
        for bit in (2, -1, 10 ** 300):
            self.raises(BadBit, {"bit": bit}, Exchange, bit, 3, "x")
            self.raises(BadBit, {"bit": bit}, Exchange, 1, bit, "x")
        for fates, at in (("x", 0), ("bfsnB", 4), ("b n", 1), ("bfa", 2), ("n" * 60 + "N", 60)):
            self.raises(BadFate, {"at": at}, Exchange, 0, 1, fates)


class Views(Raising):
    def test_small_exchanges(self):
        for fates, first, second in (
                ("", (0, None, "", 0), (1, None, "", 0)), ("b", (0, 1, "", 0), (1, 0, "", 0)),
                ("f", (0, 1, "", 0), (1, None, "", 1)), ("s", (0, None, "", 1), (1, 0, "", 0)),
                ("n", (0, None, "", 1), (1, None, "", 1)), ("bsf", (0, 1, "bs", 0), (1, 0, "b", 1)),
                ("nnbnn", (0, 1, "nn", 2), (1, 0, "nn", 2)), ("ff", (0, 1, "f", 0), (1, None, "", 2))):
            exchange = Exchange(0, 1, fates)
            self.assertEqual((exchange.seen("first"), exchange.seen("second")), (first, second), fates)

    def test_all_short_exchanges(self):
        for fates in all_texts(FATES, 4):
            for first in (0, 1):
                for second in (0, 1):
                    one = Exchange(first, second, fates)
                    for end in ENDS:
                        self.assertEqual(one.seen(end), plain_view(one, end))

    def test_alike(self):
        chance = random.Random(91)
        seen = {True: 0, False: 0}
        for _ in range(3000):
            one, other = (Exchange(chance.randint(0, 1), chance.randint(0, 1), "".join(chance.choices(FATES, k=chance.choice([2, 2, 3]))))
                          for _ in range(2))
            for end in ENDS:
                same = plain_view(one, end) == plain_view(other, end)
                self.assertIs(alike(one, other, to=end), same)
                seen[same] += 1
        self.assertGreater(min(seen.values()), 100)
        self.assertTrue(alike(Exchange(0, 0, "sn"), Exchange(0, 1, "ns"), to="first"))
        self.assertFalse(alike(Exchange(0, 0, "s"), Exchange(0, 0, "ss"), to="first"))

    def test_bad_ends(self):
        one = Exchange(0, 1, "b")
        for end in NO_ENDS:
            self.raises(BadEnd, {"end": end}, one.seen, end)
            self.raises(BadEnd, {"end": end}, alike, one, one, to=end)


if __name__ == "__main__":
    unittest.main()
