"""The house: a book of deeds that can be taken back, contested and struck ([88] to [92])."""
from signedpacts.cases import Case
from signedpacts.coins import check_purses
from signedpacts.debts import in_order
from signedpacts.drafts import Draft, copied
from signedpacts.errors import BadDeed, NoPurse, NothingToRedo, NothingToUndo
from signedpacts.parties import check_party
from signedpacts.rests import owner_of
from signedpacts.standings import Standing, after_deed, gone_through, play_under

CONTESTABLE = ("amend", "sign", "move", "pay", "set off")


def copied_deed(deed):
    """The deed with tuples in place of lists; a move is left as it is."""
    if deed[0] == "amend":
        return "amend", copied(deed[1])
    if deed[0] == "paper":
        return "paper", deed[1], tuple(deed[2]), tuple(deed[3]), deed[4]
    return tuple(deed)


class Page:
    """A deed of the book, and everything as it is after it.

    `contests` has for each paper the number of the deed that it contests, or None. `struck_deeds` and `fallen_deeds`
    are the numbers of the deeds that are left out since the last ruling.
    """

    def __init__(self, deed, standing, papers, contests, struck_deeds, fallen_deeds):
        self.deed = deed
        self.standing = standing
        self.papers = papers
        self.contests = contests
        self.struck_deeds = struck_deeds
        self.fallen_deeds = fallen_deeds


class House:
    """Parties with their purses, and the book of what they do."""

    def __init__(self, purses):
        check_purses(purses)
        standing = Standing(dict(purses), {}, Draft([]), {})
        # The first page has no deed.
        self._pages = [Page(None, standing, Case([], []), (), (), ())]
        self._taken_back = []

    def _page_of(self, deed):
        """The page for one more deed."""
        if deed[0] == "paper":
            return self._page_of_paper(deed)
        if deed[0] == "rule":
            return self._page_of_ruling(deed)
        last = self._pages[-1]
        standing = after_deed(last.standing, deed)
        return Page(deed, standing, last.papers, last.contests, last.struck_deeds, last.fallen_deeds)

    def _page_of_paper(self, deed):
        """The page for a paper that is handed in."""
        _, rank, answering, answered_by, contested = deed
        last = self._pages[-1]
        papers = last.papers.with_paper(rank, answering, answered_by)
        if contested is not None:
            deeds = self.deeds()
            if not 0 <= contested < len(deeds) or deeds[contested][0] not in CONTESTABLE:
                raise BadDeed(contested)
        contests = (*last.contests, contested)
        return Page(deed, last.standing, papers, contests, last.struck_deeds, last.fallen_deeds)

    def _page_of_ruling(self, deed):
        """The page for a ruling: the book is gone through again without the deeds that are struck."""
        last = self._pages[-1]
        told = last.papers.ruling()
        struck = [number for number, ruled in zip(last.contests, told) if ruled == "upheld" and number is not None]
        standing, fallen = gone_through(self._pages[0].standing, self.deeds(), struck)
        return Page(deed, standing, last.papers, last.contests, tuple(sorted(set(struck))), tuple(fallen))

    def do(self, deed):
        """Does a deed."""
        self._pages.append(self._page_of(copied_deed(deed)))
        self._taken_back = []

    def undo(self):
        """Takes back the last deed."""
        if len(self._pages) == 1:
            raise NothingToUndo()
        self._taken_back.append(self._pages.pop())

    def redo(self):
        """Does the deed again that was taken back last."""
        if not self._taken_back:
            raise NothingToRedo()
        self._pages.append(self._taken_back.pop())

    def purses(self):
        """All purses, in the order in which they were passed."""
        return dict(self._pages[-1].standing.held)

    def debts(self):
        """What the parties owe each other."""
        return in_order(self._pages[-1].standing.owing)

    def draft(self):
        """The draft."""
        return self._pages[-1].standing.draft_so_far

    def case(self):
        """The case of all papers."""
        return self._pages[-1].papers

    def deeds(self):
        """The deeds in the book, also those that are left out."""
        return tuple([page.deed for page in self._pages[1:]])

    def struck(self):
        """The ascending numbers of the deeds that the last ruling struck."""
        return self._pages[-1].struck_deeds

    def fallen(self):
        """The ascending numbers of the deeds that fell at the last ruling."""
        return self._pages[-1].fallen_deeds

    def signed_names(self):
        """The names of the signed pacts, in the order of signing."""
        return tuple(list(self._pages[-1].standing.plays_by_name))

    def turn_of(self, name):
        """Whose turn it is in a play, "over" if it is over."""
        chain, _ = play_under(self._pages[-1].standing, name)
        return "over" if chain is None else owner_of(chain[0], chain[1])

    def happened(self, name):
        """The happenings of a play."""
        _, told = play_under(self._pages[-1].standing, name)
        return told

    def worth(self, party):
        """The purse of a party plus what is owed to it minus what it owes."""
        check_party(party)
        standing = self._pages[-1].standing
        if party not in standing.held:
            raise NoPurse(party)
        gets = sum([coins for pair, coins in standing.owing.items() if pair[1] == party])
        owes = sum([coins for pair, coins in standing.owing.items() if pair[0] == party])
        return standing.held[party] + gets - owes


def replay(purses, deeds):
    """A house in which the deeds have been done in order."""
    house = House(purses)
    for deed in deeds:
        house.do(deed)
    return house
