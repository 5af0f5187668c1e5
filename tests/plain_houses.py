"""A plain house: everything is reckoned anew from the whole book at each question, and deeds by chance."""
from signedpacts.cases import Case
from signedpacts.drafts import Draft
from signedpacts.errors import (BadAmount, BadDeed, BadMove, BadPair, HouseError, NameTaken, NoDebt, NoPact, NoPurse, PlayOver,
                                ShortPurse, WrongTurn)
from signedpacts.plays import Play
from signedpacts.setoff import set_off
from tests.plain_debts import PAIRS, PARTIES
from tests.plain_drafts import TEXTS

RICH = 10 ** 90


class PlainWorld:
    """Purses, debts, the draft and plays. The plays have very large purses, and what happens in them is paid here."""

    def __init__(self, purses):
        self.purses, self.debts, self.draft, self.plays = dict(purses), {}, Draft([]), {}

    def owe(self, pair, coins):
        self.debts[pair] = self.debts.get(pair, 0) + coins
        if self.debts[pair] == 0:
            del self.debts[pair]

    def pay(self, payer, payee, coins):
        self.purses[payer] -= coins
        self.purses[payee] += coins

    def settle(self, happenings):
        for text in happenings:
            if len(text) > 1 and self.purses[text[0]] >= int(text[2:]):
                self.pay(text[0], text[1], int(text[2:]))
            elif len(text) > 1:
                self.owe(text[:2], int(text[2:]))

    def do(self, deed):
        word, *told = deed
        if word == "amend":
            self.draft = Draft([*self.draft.amendments, told[0]])
        elif word == "sign":
            if told[0] in self.plays:
                raise NameTaken(told[0])
            pact = self.draft.pact()
            Play(pact, {party: 0 for party in self.purses})
            self.plays[told[0]] = Play(pact, {party: RICH for party in PARTIES})
            self.settle(self.plays[told[0]].happened())
        elif word == "move":
            if told[0] not in self.plays:
                raise NoPact(told[0])
            play = self.plays[told[0]]
            if play.turn == "over":
                raise PlayOver()
            if play.turn != told[1]:
                raise WrongTurn()
            before = len(play.happened())
            play.move(told[2])
            self.settle(play.happened()[before:])
        elif word == "pay":
            self.do_pay(*told)
        elif word == "set off":
            self.debts = set_off(self.debts)[0]

    def do_pay(self, pair, coins):
        if pair not in PAIRS:
            raise BadPair(pair)
        if coins < 0:
            raise BadAmount(coins)
        for party in pair:
            if party not in self.purses:
                raise NoPurse(party)
        if self.debts.get(pair, 0) < coins:
            raise NoDebt(pair)
        if self.purses[pair[0]] < coins:
            raise ShortPurse(pair[0])
        self.pay(*pair, coins)
        self.owe(pair, -coins)


class PlainHouse:
    """A book, and what it makes of the purses."""

    def __init__(self, purses):
        self.purses, self.book, self.undone = dict(purses), [], []

    def do(self, deed):
        self.after([*self.book, deed], len(self.book))
        self.book.append(deed)
        self.undone = []

    def after(self, book, checked=None):
        """The world after the book, the struck and the fallen deeds; an error of the deed `checked` is raised."""
        rulings = [number for number, deed in enumerate(book) if deed[0] == "rule"]
        last = rulings[-1] if rulings else -1
        case, contested = self.case(book[:max(0, last)])
        struck = {number for number, told in zip(contested, case.ruling()) if told == "upheld"} - {None}
        world, fallen = PlainWorld(self.purses), []
        for number, deed in enumerate(book):
            if number < last and number in struck:
                continue
            try:
                if deed[0] == "paper" and number == checked:
                    self.check_paper(book[:number], deed)
                world.do(deed)
            except HouseError:
                if number == checked:
                    raise
                # Deeds behind the last ruling were done when nothing was wrong with them.
                assert number < last
                fallen.append(number)
        return world, tuple(sorted(struck)), tuple(fallen)

    def case(self, book):
        case, contested = Case([], []), []
        for deed in book:
            if deed[0] == "paper":
                case = case.with_paper(*deed[1:4])
                contested.append(deed[4])
        return case, contested

    def check_paper(self, book, deed):
        self.case([*book, deed])
        if deed[4] is not None and (not 0 <= deed[4] < len(book) or book[deed[4]][0] in ("paper", "rule")):
            raise BadDeed(deed[4])


def told_by_plain(plain):
    """All that a plain house tells."""
    world, struck, fallen = plain.after(plain.book)
    case = plain.case(plain.book)[0]
    worths = {party: coins + sum(sum_owed * ((pair[1] == party) - (pair[0] == party)) for pair, sum_owed in world.debts.items())
              for party, coins in world.purses.items()}
    return {"purses": list(world.purses.items()), "debts": sorted(world.debts.items()), "draft": world.draft.amendments,
            "case": (case.ranks, case.answers, case.ruling()), "deeds": tuple(plain.book), "struck": struck, "fallen": fallen,
            "plays": [(name, play.turn, play.happened()) for name, play in world.plays.items()], "worths": worths}


def told_by_house(house):
    """All that a house tells, in the same form."""
    case = house.case()
    return {"purses": list(house.purses().items()), "debts": list(house.debts().items()), "draft": house.draft().amendments,
            "case": (case.ranks, case.answers, case.ruling()), "deeds": house.deeds(), "struck": house.struck(),
            "fallen": house.fallen(),
            "plays": [(name, house.turn_of(name), house.happened(name)) for name in house.signed_names()],
            "worths": {party: house.worth(party) for party in house.purses()}}


def some_deed(chance, house):
    """A deed that often can be done."""
    word = chance.choice(["amend"] * 5 + ["sign"] * 4 + ["move"] * 8 + ["pay"] * 4 + ["set off"] + ["paper"] * 4 + ["rule"] * 2)
    names = ["lease", "sale", "x", "loan", "y"]
    if word == "amend":
        label, labels = house.draft().next_label(chance.choice("ab")), [one[1] for one in house.draft().amendments]
        rests = chance.choice([None, *labels[-3:]])
        kinds = [("add", label, rests, chance.choice(TEXTS + ("a(ab2 | ba3), b[D, ba1]", "[ab1]", "cd1", "a["))),
                 ("change", label, (chance.choice(labels or [(1, "a")]),), chance.choice(TEXTS)),
                 ("strike", label, chance.choice(labels or [(1, "a")]))]
        return "amend", chance.choice([kinds[0], *kinds, *house.draft().amendments[-1:]])
    if word == "sign":
        return "sign", chance.choice(names)
    if word == "move":
        name = chance.choice([*house.signed_names(), "x"])
        turn = house.turn_of(name) if name in house.signed_names() else "a"
        return "move", name, chance.choice([turn] * 6 + ["world", "zz"]), (chance.choice(["take", "rounds", "rounds"]), chance.randint(0, 2))
    if word == "pay":
        pair = chance.choice([*house.debts(), "ab", "ag", "cf"])
        return "pay", pair, chance.choice([0, 1, 2, house.debts().get(pair, 0), -1])
    if word == "paper":
        papers = len(house.case().ranks)
        lists = [tuple(chance.choices(range(papers + 1), k=chance.choice([0, 0, 1, 2]))) for _ in range(2)]
        return "paper", chance.randint(-1, 1), lists[0], lists[1][:1], chance.choice([None, *range(len(house.deeds()) + 1)])
    return (word,)
