"""Plays: pacts that are carried out step by step ([38] to [41])."""
from signedpacts.coins import check_purses
from signedpacts.errors import BadMove, NoMoves, NoPurse, PlayOver
from signedpacts.pacts import Pact, check_pact
from signedpacts.parties import PARTIES, check_party
from signedpacts.rests import carried_out, in_front, is_allowed, members_of, moved, owner_of


def check_named(pact, purses):
    """Raises NoPurse for the first party that the pact names but that has no purse."""
    for party in PARTIES:
        # A written pact has small letters for the parties alone.
        if party in pact.text and party not in purses:
            raise NoPurse(party)


class Play:
    """A pact that is carried out step by step, with a purse for each party."""

    def __init__(self, pact, purses):
        check_pact(pact)
        check_purses(purses)
        check_named(pact, purses)
        self._coins_of = {party: coins for party, coins in purses.items()}
        self._chain = in_front(pact.parts, None)
        self._happenings = []
        self._moves_made = []
        self._earlier = []
        self._whose = "over"
        self._ending = None
        self._short = None
        self._go_on()

    def _go_on(self):
        """Carries out members until a move is needed or the play is over."""
        while self._chain is not None:
            part, limit, _ = self._chain
            owner = owner_of(part, limit)
            if owner is not None:
                self._whose = owner
                return
            if part.KIND == "endless":
                self._end("cut", None)
                return
            if part.KIND == "transfer" and not self._pay(part):
                self._end("failed", part.payer)
                return
            if part.KIND in ("transfer", "event"):
                self._happenings.append(part.text)
            self._chain = carried_out(self._chain)
        self._end("done", None)

    def _pay(self, transfer):
        """Moves the coins of a transfer; returns False, and moves none, if the payer has too few."""
        if self._coins_of[transfer.payer] < transfer.amount:
            return False
        self._coins_of[transfer.payer] = self._coins_of[transfer.payer] - transfer.amount
        self._coins_of[transfer.payee] = self._coins_of[transfer.payee] + transfer.amount
        return True

    def _end(self, ending, short):
        """Ends the play."""
        self._whose = "over"
        self._ending = ending
        self._short = short

    @property
    def turn(self):
        """The owner whose move is needed, "world", or "over"."""
        return self._whose

    @property
    def outcome(self):
        """How the play has ended: "done", "failed", "cut", or None."""
        return self._ending

    @property
    def loser(self):
        """The party that could not pay, or None."""
        return self._short

    def move(self, move):
        """Makes a move for the one whose turn it is."""
        if self._whose == "over":
            raise PlayOver()
        part, limit, _ = self._chain
        if not is_allowed(part, limit, move):
            raise BadMove(move)
        _, number = move
        self._earlier.append((dict(self._coins_of), self._chain, self._whose, len(self._happenings)))
        self._moves_made.append(move)
        if part.KIND == "endless" and number == 0:
            self._end("cut", None)
        else:
            self._chain = moved(self._chain, number)
            self._go_on()

    def undo(self):
        """Takes the last move back."""
        if not self._earlier:
            raise NoMoves()
        coins, chain, whose, many = self._earlier.pop()
        self._moves_made.pop()
        del self._happenings[many:]
        # A twin may still go back to the same point.
        self._coins_of = dict(coins)
        self._chain = chain
        self._whose = whose
        # A move was possible, so the play was not over.
        self._ending = None
        self._short = None

    def coins(self, party):
        """The coins in the purse of a party."""
        check_party(party)
        if party not in self._coins_of:
            raise NoPurse(party)
        return self._coins_of[party]

    def purses(self):
        """All purses, in the order in which they were passed."""
        return dict(self._coins_of)

    def moves(self):
        """The moves made and not taken back."""
        return tuple(self._moves_made)

    def row(self):
        """What is left, as pairs of a part and a limit."""
        return members_of(self._chain)

    def happened(self):
        """The written forms of the transfers and events that were carried out."""
        return tuple(self._happenings)

    def twin(self):
        """An independent play at the same point, with the same moves made."""
        other = Play(Pact([]), self._coins_of)
        other._chain = self._chain
        other._happenings = list(self._happenings)
        other._moves_made = list(self._moves_made)
        other._earlier = list(self._earlier)
        other._whose = self._whose
        other._ending = self._ending
        other._short = self._short
        return other
