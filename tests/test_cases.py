import copy
import itertools
import random
import unittest

from signedpacts.cases import Case
from signedpacts.errors import BadPaper, NoAnswer, NotUpheld
from tests.raising import Raising


def some_case(chance, most=20):
    """Ranks and answers of a case; often later papers answer earlier ones."""
    many = chance.randint(0, most)
    ranks = [chance.choice([0, 0, 0, chance.randint(-2, 2) * chance.choice([1, 10 ** 60])]) for _ in range(many)]
    answers = [(chance.randrange(many), chance.randrange(many)) for _ in range(chance.randint(0, 2 * many))]
    if chance.random() < 0.5:
        answers = [(max(pair), min(pair)) for pair in answers if pair[0] != pair[1]]
    return ranks, answers + chance.choices(answers, k=min(2, len(answers)))


def counting(ranks, answers, paper):
    return {one for one, answered in answers if answered == paper and ranks[one] >= ranks[paper]}


def fits(ranks, answers, ruling, settled):
    """True if a ruling is the one that [86] describes."""
    for paper, told in enumerate(ruling):
        against = counting(ranks, answers, paper)
        if told == "upheld":
            good = all(ruling[one] == "refused" and settled[one] < settled[paper] for one in against)
        elif told == "refused":
            good = any(ruling[one] == "upheld" and settled[one] <= settled[paper] for one in against)
        else:
            good = any(ruling[one] == "open" for one in against) and all(ruling[one] != "upheld" for one in against)
        if not good or (settled[paper] is None) != (told == "open"):
            return False
    return True


def plain_ruling(ranks, answers):
    """The ruling in rounds, each paper looked at anew."""
    told, settled, now = {}, {}, 0
    papers = range(len(ranks))
    while True:
        now += 1
        before = dict(told)
        for paper in papers:
            if paper not in told and all(before.get(one) == "refused" for one in counting(ranks, answers, paper)):
                told[paper], settled[paper] = "upheld", now
        upheld = [paper for paper in papers if told.get(paper) == "upheld"]
        for paper in papers:
            if paper not in told and counting(ranks, answers, paper) & set(upheld):
                told[paper], settled[paper] = "refused", now
        if told == before:
            return tuple(told.get(paper, "open") for paper in papers), tuple(settled.get(paper) for paper in papers)


class Cases(Raising):
    def test_small_cases(self):
        for ranks, answers, ruling, settled in (
                ([], [], (), ()), ([0], [], ("upheld",), (1,)), ([0], [(0, 0)], ("open",), (None,)),
                ([0, 0], [(1, 0)], ("refused", "upheld"), (1, 1)), ([1, 0], [(1, 0)], ("upheld", "upheld"), (1, 1)),
                ([0, 0], [(1, 0), (0, 1)], ("open", "open"), (None, None)),
                ([0, 1], [(1, 0), (0, 1)], ("refused", "upheld"), (1, 1)),
                ([0, 0, 0], [(1, 0), (2, 1)], ("upheld", "refused", "upheld"), (2, 1, 1)),
                ([0] * 4, [(1, 0), (2, 1), (3, 2)], ("refused", "upheld", "refused", "upheld"), (2, 2, 1, 1)),
                ([0, 0], [(0, 0), (1, 0)], ("refused", "upheld"), (1, 1)),
                ([0, 0], [(1, 1), (1, 0)], ("open", "open"), (None, None)),
                ([-5, -6], [(1, 0), (1, 0)], ("upheld", "upheld"), (1, 1)),
                ([-5, -5], [(1, 0), (1, 0)], ("refused", "upheld"), (1, 1))):
            case = Case(ranks, answers)
            self.assertEqual((case.ruling(), case.settled()), (ruling, settled), (ranks, answers))
            self.assertTrue(fits(ranks, answers, ruling, settled))

    def test_fields(self):
        case = Case([1, -2], [[1, 0], (1, 0), [0, 0]])
        self.assertEqual((case.ranks, case.answers), ((1, -2), ((1, 0), (1, 0), (0, 0))))
        ranks, answers = [0, 0], [[1, 0]]
        case = Case(ranks, answers)
        ranks[0], answers[0][0] = 5, 0
        answers.append([0, 1])
        self.assertEqual((case.ranks, case.answers, case.ruling()), ((0, 0), ((1, 0),), ("refused", "upheld")))

    def test_random_cases(self):
        chance = random.Random(151)
        latest = {}
        for _ in range(1500):
            ranks, answers = some_case(chance)
            before = copy.deepcopy((ranks, answers))
            case = Case(ranks, answers)
            self.assertEqual((case.ruling(), case.settled()), plain_ruling(ranks, answers))
            self.assertTrue(fits(ranks, answers, case.ruling(), case.settled()))
            self.assertEqual((ranks, answers), before)
            last = max([0, *(told for told in case.settled() if told is not None)])
            latest[last] = latest.get(last, 0) + 1
        self.assertTrue(all(latest.get(many, 0) > 20 for many in range(1, 4)), latest)

    def test_the_ruling_is_the_only_one(self):
        chance = random.Random(152)
        words = (("upheld", 1), ("upheld", 2), ("refused", 1), ("refused", 2), ("open", None))
        for _ in range(40):
            ranks, answers = some_case(chance, 4)
            found = {tuple(word for word, _ in told) for told in itertools.product(words, repeat=len(ranks))
                     if fits(ranks, answers, *(zip(*told) if told else ((), ())))}
            self.assertEqual(found, {Case(ranks, answers).ruling()})

    def test_a_long_line(self):
        case = Case([0] * 20, [(at + 1, at) for at in range(19)])
        self.assertEqual(case.ruling(), ("refused", "upheld") * 10)
        self.assertEqual(case.settled(), tuple(10 - at // 2 for at in range(20)))

    def test_bad_papers(self):
        for answers, number in (([(0, 2)], 2), ([(2, 3)], 2), ([(0, 1), (-1, 5)], -1), ([(1, -2), (3, 3)], -2)):
            self.raises(BadPaper, {"number": number}, Case, [0, 0], answers)
        self.raises(BadPaper, {"number": 0}, Case, [], [(0, 0)])


class Replies(Raising):
    def test_small_replies(self):
        # Paper 0 is answered by 1 and 2; 3 answers both, 4 answers 2, 5 answers 4, 6 answers 5.
        case = Case([0] * 7, [(1, 0), (2, 0), (3, 1), (3, 2), (4, 2), (5, 4), (6, 5)])
        self.assertEqual([case.reply(0, 1), case.reply(0, 2)], [3, 3])
        # The paper that was settled first defends, and of several such papers the one with the least number.
        case = Case([0] * 6, [(1, 0), (2, 1), (4, 2), (5, 4), (3, 1), (5, 1)])
        self.assertEqual((case.settled()[2], case.reply(0, 1)), (2, 3))
        case = Case([0, 0, -1, 0], [(1, 0), (2, 1), (3, 1)])
        self.assertEqual(case.reply(0, 1), 3)

    def test_all_replies(self):
        chance = random.Random(153)
        seen = {}
        for _ in range(500):
            ranks, answers = some_case(chance, 12)
            case, papers = Case(ranks, answers), range(len(ranks))
            for paper, answer in itertools.product(papers, repeat=2):
                if case.ruling()[paper] != "upheld":
                    self.raises(NotUpheld, {"number": paper}, case.reply, paper, answer)
                elif answer not in counting(ranks, answers, paper):
                    self.raises(NoAnswer, {"number": answer}, case.reply, paper, answer)
                else:
                    able = [(case.settled()[one], one) for one in counting(ranks, answers, answer)
                            if case.ruling()[one] == "upheld"]
                    self.assertEqual(case.reply(paper, answer), min(able)[1])
                    seen[len(able) > 1] = seen.get(len(able) > 1, 0) + 1
        self.assertGreater(min(seen.values()), 20)

    def test_errors_in_their_order(self):
        case = Case([0, 0, 0], [(1, 0)])
        for paper, answer, number in ((3, -1, 3), (-1, 3, -1), (0, 3, 3), (0, -1, -1), (2, 4, 4)):
            self.raises(BadPaper, {"number": number}, case.reply, paper, answer)
        self.raises(NotUpheld, {"number": 0}, case.reply, 0, 2)
        self.raises(NotUpheld, {"number": 0}, case.reply, 0, 1)
        self.raises(NoAnswer, {"number": 2}, case.reply, 1, 2)
        # An answer of a lower rank does not count.
        self.raises(NoAnswer, {"number": 1}, Case([1, 0], [(1, 0)]).reply, 0, 1)


class MorePapers(Raising):
    def test_one_more_paper(self):
        case = Case([0, 0], [(1, 0)])
        more = case.with_paper(3, [1, 2], (0, 2))
        self.assertEqual((more.ranks, more.answers), ((0, 0, 3), ((1, 0), (2, 1), (2, 2), (0, 2), (2, 2))))
        self.assertEqual((more.ruling(), more.settled()), (("open",) * 3, (None,) * 3))
        self.assertEqual((case.ranks, case.answers, case.ruling()), ((0, 0), ((1, 0),), ("refused", "upheld")))
        self.assertEqual(case.with_paper(0, [1], []).ruling(), ("upheld", "refused", "upheld"))
        self.assertEqual(case.with_paper(-1, [1], []).ruling(), ("refused", "upheld", "upheld"))
        self.assertEqual(Case([], []).with_paper(-(10 ** 60), [0], [0]).answers, ((0, 0), (0, 0)))

    def test_papers_one_by_one(self):
        chance = random.Random(154)
        for _ in range(100):
            case, ranks, answers = Case([], []), [], []
            for number in range(8):
                rank = chance.randint(-1, 1)
                mine = [chance.randint(0, number) for _ in range(chance.randint(0, 2))]
                its = [chance.randint(0, number) for _ in range(chance.randint(0, 2))]
                case = case.with_paper(rank, mine, its)
                ranks.append(rank)
                answers += [(number, one) for one in mine] + [(one, number) for one in its]
            whole = Case(ranks, answers)
            self.assertEqual((case.ranks, case.answers, case.ruling()), (whole.ranks, whole.answers, whole.ruling()))

    def test_errors_in_their_order(self):
        case = Case([0, 0], [])
        for answering, answered_by, number in (([3], [-1], 3), ([0, -1, 4], [3], -1), ([2], [0, 5, 3], 5), ([], [-2], -2)):
            self.raises(BadPaper, {"number": number}, case.with_paper, 0, answering, answered_by)
        self.assertEqual(case.ranks, (0, 0))


if __name__ == "__main__":
    unittest.main()
