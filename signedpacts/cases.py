"""Cases: papers that answer papers, and what is upheld of them ([85] to [87])."""
from signedpacts.errors import BadPaper, NoAnswer, NotUpheld


def check_paper(number, many):
    """Raises BadPaper if the number is not that of one of so many papers."""
    if not 0 <= number < many:
        raise BadPaper(number)


def counting_answers(ranks, answers):
    """For each paper the papers whose answers to it count."""
    found = [[] for _ in ranks]
    for paper, answered in answers:
        if ranks[paper] >= ranks[answered]:
            found[answered].append(paper)
    return found


def told_in_rounds(counting):
    """For each paper what it is ruled to be, and the round in which it is settled, None for an open one."""
    told = ["open" for _ in counting]
    settled = [None for _ in counting]
    papers = range(len(counting))
    many = 0
    news = True
    while news:
        many += 1
        upheld = [paper for paper in papers
                  if told[paper] == "open" and all([told[one] == "refused" for one in counting[paper]])]
        for paper in upheld:
            told[paper] = "upheld"
        refused = [paper for paper in papers
                   if told[paper] == "open" and any([told[one] == "upheld" for one in counting[paper]])]
        for paper in refused:
            told[paper] = "refused"
        for paper in [*upheld, *refused]:
            settled[paper] = many
        news = len(upheld) + len(refused) > 0
    return told, settled


class Case:
    """Papers with their ranks, and which of them answer which."""

    def __init__(self, ranks, answers):
        for paper, answered in answers:
            check_paper(paper, len(ranks))
            check_paper(answered, len(ranks))
        counting = counting_answers(ranks, answers)
        told, settled = told_in_rounds(counting)
        self.ranks = tuple(ranks)
        self.answers = tuple([(paper, answered) for paper, answered in answers])
        self._counting = counting
        self._told = tuple(told)
        self._settled_in = tuple(settled)

    def ruling(self):
        """What each paper is ruled to be: "upheld", "refused" or "open"."""
        return self._told

    def settled(self):
        """The round in which each paper is settled, None for an open one."""
        return self._settled_in

    def reply(self, paper, answer):
        """The upheld paper, settled first, that defends an upheld paper against one of its counting answers."""
        check_paper(paper, len(self.ranks))
        check_paper(answer, len(self.ranks))
        if self._told[paper] != "upheld":
            raise NotUpheld(paper)
        if answer not in self._counting[paper]:
            raise NoAnswer(answer)
        found = [(self._settled_in[one], one) for one in self._counting[answer] if self._told[one] == "upheld"]
        return min(found)[1]

    def with_paper(self, rank, answering, answered_by):
        """The case with one more paper."""
        number = len(self.ranks)
        more = [*[(number, one) for one in answering], *[(one, number) for one in answered_by]]
        return Case([*self.ranks, rank], [*self.answers, *more])
