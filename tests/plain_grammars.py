"""Plain reckonings with grammars, derivations and certificates."""
from signedpacts.countsets import CountSet
from signedpacts.grammars import Grammar
from tests.plain import combined, is_staircase

EXAMPLE = Grammar(2, ["S", "T"], [("S", (1, 2), ["S"]), ("S", (0, 0), ["T"]), ("T", (3, 0), ["T"]), ("T", (0, 0), [])])


def some_grammar(chance, names=6, rules=12, width=3, most=3, uses=3):
    """A small grammar; some of its names have no rule, some no derivation."""
    given = [f"N{at}" for at in range(chance.randint(1, names))]
    width = chance.randint(0, width)
    found = []
    for _ in range(chance.randint(0, rules)):
        row = [chance.randint(-most, most) for _ in range(width)]
        found.append((chance.choice(given), row, [chance.choice(given) for _ in range(chance.choice([0, 0, 1, uses]))]))
    return Grammar(width, given, found)


def heights(grammar):
    """The least height of a derivation for each live name."""
    found = {}
    while True:
        level = 1 + max(found.values(), default=0)
        new = {name: level for name, _, uses in grammar.rules
               if name not in found and all(used in found for used in uses)}
        if not new:
            return found
        found.update(new)


def added(rows, width):
    return tuple(sum(row[column] for row in rows) for column in range(width))


def written_out(grammar, steps, at=-1):
    """The row, the size, the height and the rules from left to right of a step, without sharing anything."""
    number, uses = steps[at]
    parts = [written_out(grammar, steps, used) for used in uses]
    row = added([grammar.rules[number][1], *[part[0] for part in parts]], grammar.width)
    rules = [number] + [rule for part in parts for rule in part[3]]
    return row, 1 + sum(part[1] for part in parts), 1 + max([part[2] for part in parts], default=0), rules


def are_steps(grammar, steps):
    """True if the steps are those of a derivation."""
    for at, (number, uses) in enumerate(steps):
        if number not in range(len(grammar.rules)) or any(used not in range(at) for used in uses):
            return False
        if [grammar.rules[steps[used][0]][0] for used in uses] != list(grammar.rules[number][2]):
            return False
    return len(steps) > 0


def row_of(grammar, steps):
    """The row of a derivation, step by step."""
    rows = []
    for number, uses in steps:
        rows.append(added([grammar.rules[number][1], *[rows[used] for used in uses]], grammar.width))
    return rows[-1]


def least_sets(grammar):
    """The least set of each name: what one more rule above gives is added until nothing is new."""
    found = {name: CountSet(grammar.width) for name in grammar.names}
    changed = True
    while changed:
        changed = False
        for name, row, uses in grammar.rules:
            new = CountSet(grammar.width, start=row)
            for used in uses:
                new = new + found[used]
            if not new.within(found[name]):
                found[name] = found[name] | new
                changed = True
    return found


def is_right(grammar, paper):
    """True if the paper is a right certificate, read off the list in [24]."""
    entries, closures = paper
    if (len(entries), len(closures)) != (len(grammar.names), len(grammar.rules)):
        return False
    by_name = dict(zip(grammar.names, entries))
    if not all(entry is None or is_right_entry(grammar, name, entry) for name, entry in by_name.items()):
        return False
    return all(is_right_closure(grammar, rule, by_name, closure) for rule, closure in zip(grammar.rules, closures))


def is_right_entry(grammar, name, entry):
    start, steps, sums, start_factors, step_factors = entry
    if len(start) != grammar.width or not is_staircase(steps, grammar.width):
        return False
    for step in steps:
        column = [at for at in range(grammar.width) if step[at]][0]
        if not 0 <= start[column] < step[column]:
            return False
    if not sums or not all(are_steps(grammar, one) and grammar.rules[one[-1][0]][0] == name for one in sums):
        return False
    rows = [row_of(grammar, one) for one in sums]
    if len(step_factors) != len(steps):
        return False
    for row, factors, altogether in [(start, start_factors, 1)] + [(*pair, 0) for pair in zip(steps, step_factors)]:
        if len(factors) != len(rows) or sum(factors) != altogether:
            return False
        if combined(rows, factors, grammar.width) != tuple(row):
            return False
    return True


def is_right_closure(grammar, rule, by_name, closure):
    name, row, uses = rule
    if any(by_name[used] is None for used in uses):
        return closure is None
    if closure is None or by_name[name] is None:
        return False
    shift, turns = closure
    start, steps = by_name[name][:2]
    if len(shift) != len(steps) or len(turns) != len(uses):
        return False
    width = grammar.width
    if added([row, *[by_name[used][0] for used in uses]], width) != added([start, combined(steps, shift, width)], width):
        return False
    for used, turn in zip(uses, turns):
        if len(turn) != len(by_name[used][1]):
            return False
        for step, factors in zip(by_name[used][1], turn):
            if len(factors) != len(steps) or combined(steps, factors, width) != tuple(step):
                return False
    return True
