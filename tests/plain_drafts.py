"""Plain reckonings with drafts, and amendments by chance."""
from signedpacts.notation import parse_pact

TEXTS = ("ab5", "D", "a(D | .)", ".", " ba1 ,E", "b[ab1]", "2(D, E)", "[.]")
NO_CLAUSES = ("", " ", "ab", "D,", "aa5", "a(D)", "ab5;", "D E", "x")


def some_amendments(chance, many, parties="abc"):
    """Amendments that can stand in one draft."""
    found, clause_of = [], {}
    number = 1
    for _ in range(many):
        number += chance.choice([0, 1, 1, 2])
        label = (number, chance.choice(parties))
        if found and found[-1][1] >= label:
            number += 1
            label = (number, label[1])
        adds = [one[1] for one in found if one[0] == "add"]
        word = chance.choice(["add", "add", "change", "change", "strike"]) if adds else "add"
        if word == "add":
            found.append(("add", label, chance.choice([None, *adds]), chance.choice(TEXTS)))
            clause_of[label] = label
        elif word == "change":
            clause = chance.choice(adds)
            versions = [one for one in clause_of if clause_of[one] == clause]
            named = tuple(chance.sample(versions, chance.randint(1, min(4, len(versions)))))
            found.append(("change", label, named, chance.choice(TEXTS)))
            clause_of[label] = clause
        else:
            found.append(("strike", label, chance.choice(adds)))
    return found


def named_by(amendment):
    return [one for one in (amendment[2] if amendment[0] == "change" else [amendment[2]]) if one is not None]


def plain_order(amendments):
    """The clauses as they come when each one is put directly behind the one that it names, or first of all."""
    found = []
    for one in sorted(amendments, key=lambda one: one[1]):
        if one[0] == "add":
            found.insert(0 if one[2] is None else found.index(one[2]) + 1, one[1])
    return tuple(found)


def plain_versions(amendments, clause):
    """The ascending labels of the standing versions of a clause."""
    versions = {clause}
    for one in sorted(amendments, key=lambda one: one[1]):
        if one[0] == "change" and set(one[2]) & versions:
            versions.add(one[1])
    named = {label for one in amendments if one[0] == "change" for label in one[2]}
    return sorted(versions - named)


def plain_clauses(amendments):
    texts = {one[1]: one[3] for one in amendments if one[0] != "strike"}
    struck = [one[2] for one in amendments if one[0] == "strike"]
    return tuple((label, texts[plain_versions(amendments, label)[-1]]) for label in plain_order(amendments)
                 if label not in struck)


def plain_resting(amendments, label):
    found = {label}
    while True:
        more = found | {one[1] for one in amendments if set(named_by(one)) & found}
        if more == found:
            return tuple(sorted(found))
        found = more


def plain_text(amendments):
    texts = [parse_pact(text).text for _, text in plain_clauses(amendments)]
    return ", ".join(text for text in texts if text != ".") or "."
