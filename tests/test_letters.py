import itertools
import random
import unittest

from signedpacts.errors import BadEnd, Unmatched
from signedpacts.exchanges import Exchange
from signedpacts.letters import grow
from tests.plain import all_texts
from tests.plain_notices import ARRIVES, ENDS, FATES, plain_view
from tests.raising import Raising


def rounds_in(view):
    return view[3] if view[1] is None else len(view[2]) + 1 + view[3]


def shown_views(most):
    """The exchange that shows two views, for all exchanges of at most that many rounds."""
    shown = {}
    for fates in all_texts(FATES, most):
        for first, second in itertools.product((0, 1), repeat=2):
            one = Exchange(first, second, fates)
            shown[tuple(plain_view(one, end) for end in ENDS)] = one
    return shown


class Grow(Raising):
    def test_small_views(self):
        for end, view, letter, wanted in (
                ("first", (0, None, "", 0), (1, None, "", 0), (0, 1, "", 0)),
                ("second", (1, None, "", 0), (0, None, "", 0), (1, 0, "", 0)),
                ("first", (0, None, "", 2), (1, 0, "", 1), (0, 1, "sn", 0)),
                ("second", (1, 0, "", 1), (0, None, "", 2), (1, 0, "sn", 0)),
                ("first", (0, 1, "bs", 0), (1, 0, "b", 1), (0, 1, "bsf", 0)),
                ("second", (1, None, "", 3), (0, None, "", 3), (1, 0, "nnn", 0))):
            self.assertEqual(grow(end, view, letter), wanted)

    def test_exchanges_grow_round_by_round(self):
        chance = random.Random(92)
        for _ in range(400):
            bits = [chance.randint(0, 1), chance.randint(0, 1)]
            views = {end: (bit, None, "", 0) for end, bit in zip(ENDS, bits)}
            fates = ""
            for fate in chance.choices(FATES, weights=[3, 2, 2, 2], k=chance.choice([5, 60])):
                letters = {"first": views["second"], "second": views["first"]}
                views = {end: grow(end, views[end], letters[end] if fate in ARRIVES[end] else None) for end in ENDS}
                fates += fate
                for end in ENDS:
                    self.assertEqual(views[end], Exchange(*bits, fates).seen(end))

    def test_all_pairs_of_short_views(self):
        shown = shown_views(4)
        views = [(own, other, known, silent) for own in (0, 1) for other in (0, 1, None) for known in all_texts(FATES, 2)
                 for silent in range(3)]
        pairs = [pair for pair in itertools.product(views, repeat=2) if max(map(rounds_in, pair)) <= 4]
        chance = random.Random(93)
        seen = {True: 0, False: 0}
        for first, second in [*chance.sample(pairs, 15000), *shown]:
            for end in ENDS:
                view, letter = (first, second) if end == "first" else (second, first)
                match = shown.get((first, second))
                if match is None:
                    self.raises(Unmatched, {}, grow, end, view, letter)
                else:
                    # Whether the other letter arrives as well makes no difference.
                    for fate in ARRIVES[end]:
                        later = Exchange(match.first_bit, match.second_bit, match.fates + fate)
                        self.assertEqual(grow(end, view, letter), plain_view(later, end))
                seen[match is not None] += 1
        self.assertGreater(min(seen.values()), 1000)

    def test_views_that_no_exchange_shows(self):
        for view, letter in (((0, None, "n", 1), (1, None, "", 1)), ((0, None, "", 1), (1, None, "", 2)),
                             ((0, 0, "", 0), (1, 0, "", 0)), ((0, 1, "", 0), (1, 1, "", 0)),
                             ((0, 1, "b", 0), (1, 0, "f", 0)), ((0, 1, "f", 0), (1, 0, "", 1)),
                             ((0, None, "b", 0), (1, None, "b", 0)), ((0, 1, "s", 1), (1, None, "", 3))):
            self.raises(Unmatched, {}, grow, "first", view, letter)
            self.raises(Unmatched, {}, grow, "second", letter, view)

    def test_a_lost_letter(self):
        # The view is not checked then.
        for view in ((0, None, "", 0), (1, 0, "bfsn", 7), (1, None, "bb", 2), (0, 1, "", 10 ** 60)):
            for end in ENDS:
                self.assertEqual(grow(end, view, None), (*view[:3], view[3] + 1))

    def test_lists(self):
        self.assertEqual(grow("first", [0, None, "", 1], [1, None, "", 1]), (0, 1, "n", 0))
        self.assertEqual(grow("first", [0, None, "", 1], None), (0, None, "", 2))
        self.assertIs(type(grow("second", [0, None, "", 1], None)), tuple)

    def test_errors_in_their_order(self):
        for end in ("", "third", "First", "a"):
            self.raises(BadEnd, {"end": end}, grow, end, (0, None, "", 1), None)
            self.raises(BadEnd, {"end": end}, grow, end, (0, None, "", 1), (0, None, "", 5))


if __name__ == "__main__":
    unittest.main()
