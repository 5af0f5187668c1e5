"""Drafts: amendments that several parties make, each on its own copy ([79] to [83])."""
from signedpacts.errors import BadClause, BadText, Missing, SameLabel, UnknownLabel
from signedpacts.notation import orders_of, parse_pact
from signedpacts.pacts import Pact
from signedpacts.parties import check_party


def copied(amendment):
    """The amendment with tuples in place of lists."""
    word = amendment[0]
    label = tuple(amendment[1])
    if word == "add":
        behind = amendment[2]
        return word, label, None if behind is None else tuple(behind), amendment[3]
    if word == "change":
        return word, label, tuple([tuple(version) for version in amendment[2]]), amendment[3]
    return word, label, tuple(amendment[2])


def rested_on(amendment):
    """The labels that the amendment names."""
    if amendment[0] == "change":
        return amendment[2]
    return () if amendment[2] is None else (amendment[2],)


def by_labels(amendments):
    """The amendments by their labels, in ascending order; raises SameLabel if two different ones have one label."""
    found = {}
    for amendment in sorted([copied(one) for one in amendments], key=lambda one: one[1]):
        label = amendment[1]
        if found.get(label, amendment) != amendment:
            raise SameLabel(label)
        found[label] = amendment
    return found


def clauses_of_versions(amendments):
    """For each version the label of its clause; raises Missing for the first amendment that rests on a wrong one.

    The amendments come in ascending order, so what an amendment can rest on is known when its turn comes.
    """
    found = {}
    for amendment in amendments:
        label = amendment[1]
        named = rested_on(amendment)
        clauses = [found.get(one) for one in named]
        if amendment[0] == "change":
            fits = None not in clauses and len(set(clauses)) == 1
        else:
            fits = all([clause == one for clause, one in zip(clauses, named)])
        if not fits:
            raise Missing(label)
        if amendment[0] == "add":
            found[label] = label
        elif amendment[0] == "change":
            found[label] = clauses[0]
    return found


def check_clause(amendment):
    """Raises BadClause if the text of the amendment is not a written pact."""
    if amendment[0] == "strike":
        return
    try:
        orders_of(amendment[3])
    except BadText as why:
        raise BadClause(amendment[1]) from why


class Draft:
    """A set of amendments, and the clauses that they make."""

    def __init__(self, amendments):
        found = by_labels(amendments)
        ordered = list(found.values())
        clauses = clauses_of_versions(ordered)
        for amendment in ordered:
            check_clause(amendment)
        self.amendments = tuple(ordered)
        self._by_label = found
        self._clause_of = clauses

    def __or__(self, other):
        return Draft([*self.amendments, *other.amendments])

    def __eq__(self, other):
        return isinstance(other, Draft) and self.amendments == other.amendments

    def order(self):
        """The labels of all clauses in their order, also of those that are struck out."""
        siblings = {}
        for amendment in self.amendments:
            if amendment[0] == "add":
                siblings.setdefault(amendment[2], []).append(amendment[1])
        found = []
        # What is added last is taken first, so the greatest label is.
        waiting = list(siblings.get(None, []))
        while waiting:
            label = waiting.pop()
            found.append(label)
            waiting.extend(list(siblings.get(label, [])))
        return tuple(found)

    def _standing(self):
        """For each clause the ascending labels of its standing versions."""
        named = set([label for one in self.amendments if one[0] == "change" for label in one[2]])
        found = {}
        for label, clause in self._clause_of.items():
            versions = found.setdefault(clause, [])
            if label not in named:
                versions.append(label)
        return found

    def contested(self):
        """The ascending labels of the clauses that have several standing versions."""
        return tuple([clause for clause, versions in self._standing().items() if len(versions) > 1])

    def clauses(self):
        """The labels and the texts of the clauses that are not struck out, in their order."""
        standing = self._standing()
        struck = set([one[2] for one in self.amendments if one[0] == "strike"])
        kept = [label for label in self.order() if label not in struck]
        return tuple([(label, self._by_label[standing[label][-1]][3]) for label in kept])

    def pact(self):
        """The pact with the parts of all clauses that are not struck out."""
        return Pact([part for _, text in self.clauses() for part in parse_pact(text).parts])

    def resting(self, label):
        """The ascending labels of the amendment with this label and of those that rest on it, also over others."""
        wanted = tuple(label)
        if wanted not in self._by_label:
            raise UnknownLabel(wanted)
        found = {wanted: True}
        for amendment in self.amendments:
            if any([one in found for one in rested_on(amendment)]):
                found[amendment[1]] = True
        return tuple(list(found))

    def without(self, label):
        """The draft without the amendment with this label and those that rest on it."""
        left_out = set(self.resting(label))
        return Draft([one for one in self.amendments if one[1] not in left_out])

    def next_label(self, party):
        """The label with the next number for a party."""
        check_party(party)
        greatest = self.amendments[-1][1][0] if self.amendments else 0
        return greatest + 1, party
