"""Grammars whose derivations are the done plays of a pact ([51])."""
from signedpacts.balances import check_columns, empty_row, row_of_part
from signedpacts.derivations import Derivation
from signedpacts.grammars import Grammar
from signedpacts.rows import added

# The name of the whole pact. Every other name is the written form of a choice, of rounds or of endless rounds,
# so parts that are written alike have one name, and the grammars of equal pacts have the same rules.
WHOLE = "pact"


def written_out(parts):
    """Transfers and events of the parts, and their choices, rounds and endless rounds, in two lists.

    What is done a fixed number of times stands there so many times, so it needs no name of its own.
    """
    plain = []
    open_parts = []
    for part in parts:
        if part.KIND == "times":
            inner, inner_open = written_out(part.body.parts)
            for _ in range(part.count):
                plain.extend(inner)
                open_parts.extend(inner_open)
        elif part.KIND in ("transfer", "event"):
            plain.append(part)
        else:
            open_parts.append(part)
    return plain, open_parts


def ways_of(part):
    """For each rule of a choice or of rounds the sequence of parts that it stands for."""
    if part.KIND == "choice":
        return [option.parts for option in part.options]
    return [(), (*part.body.parts, part)] if part.KIND == "rounds" else []


def rules_for(part):
    """The rules of a choice or of rounds: (name, kind, index among them, transfers and events, used parts)."""
    return [(part.text, part.KIND, index, *written_out(way)) for index, way in enumerate(ways_of(part))]


def planned(pact):
    """The names and the rules of a pact, and for each name the number of its first rule."""
    names = [WHOLE]
    rules = [(WHOLE, WHOLE, 0, *written_out(pact.parts))]
    firsts = {WHOLE: 0}
    at = 0
    while at < len(rules):
        for part in list(rules[at][4]):
            if part.text not in firsts:
                names.append(part.text)
                firsts[part.text] = len(rules)
                rules.extend(rules_for(part))
        at += 1
    return names, rules, firsts


def grammar_of_plan(names, rules, parties, marks):
    """The grammar with the names and the rules of a plan."""
    written = []
    for name, _, _, plain, used in rules:
        row = added([empty_row(parties, marks), *[row_of_part(part, parties, marks) for part in plain]])
        written.append((name, row, [part.text for part in used]))
    return Grammar(len(parties) + len(marks), names, written)


def play_grammar(pact, *, parties, marks):
    """A grammar in which the sums of "pact" are the balance rows of the done plays."""
    check_columns(parties, marks)
    names, rules, _ = planned(pact)
    return grammar_of_plan(names, rules, parties, marks)


def rounds_of_steps(rules, steps):
    """For each step that stands for rounds how many rounds it makes; 0 for other steps."""
    found = []
    for number, uses in steps:
        _, kind, index, _, _ = rules[number]
        # The last use of one more round is the rounds behind it.
        found.append(found[uses[-1]] + 1 if kind == "rounds" and index == 1 else 0)
    return found


def moves_of(pact, derivation):
    """The moves of a done play whose balance row is the total of the derivation."""
    _, rules, _ = planned(pact)
    many = rounds_of_steps(rules, derivation.steps)
    moves = []
    waiting = [(len(derivation.steps) - 1, True)]
    while waiting:
        at, begins = waiting.pop()
        number, uses = derivation.steps[at]
        _, kind, index, _, _ = rules[number]
        if kind == "choice":
            moves.append(("take", index))
        # Rounds that are under way end without a move when none is left.
        if kind == "rounds" and (begins or many[at] > 0):
            moves.append(("rounds", many[at]))
        goes_on = len(uses) - 1 if kind == "rounds" else None
        # What is added last is taken first.
        for place in reversed(range(len(uses))):
            waiting.append((uses[place], place != goes_on))
    return tuple(moves)


def rule_numbers(rules, firsts, moves):
    """The numbers of the rules of a done play, as its derivation yields them from left to right."""
    numbers = [0]
    waiting = [(part, None) for part in rules[0][4]][::-1]
    made = 0
    while waiting:
        part, limit = waiting.pop()
        chosen = 0
        if limit != 0:
            _, chosen = moves[made]
            made += 1
        number = firsts[part.text] + (min(1, chosen) if part.KIND == "rounds" else chosen)
        numbers.append(number)
        members = [(used, None) for used in rules[number][4]]
        if part.KIND == "rounds" and chosen > 0:
            members[-1] = (part, chosen - 1)
        waiting.extend(members[::-1])
    return numbers


def derivation_of(pact, moves, *, parties, marks):
    """The derivation of "pact" for the moves of a done play."""
    check_columns(parties, marks)
    names, rules, firsts = planned(pact)
    grammar = grammar_of_plan(names, rules, parties, marks)
    return Derivation.from_rules(grammar, WHOLE, rule_numbers(rules, firsts, moves))
