"""Finds code of the package that breaks the rules of LANGUAGE.md, as far as they can be seen in one look.

Where a rule is long, what is checked here is a narrower rule that is easier to see.
"""
import ast
import builtins
import pathlib
import re
import warnings

PACKAGE = pathlib.Path(__file__).resolve().parent.parent / "signedpacts"

LIBRARY = {
    "heapq": "heappush heappop heapify heapreplace heappushpop", "math": "gcd lcm isqrt comb perm factorial",
    # product, combinations and permutations do not stand beside a class that is iterated over and has a length.
    "itertools": "chain accumulate pairwise islice zip_longest",
    "collections": "defaultdict",
}
NAMES_OF_LIBRARY = set(" ".join(LIBRARY.values()).split())
BUILTINS = set(
    "len range enumerate zip min max sum abs sorted reversed int str bool list tuple dict set isinstance ord repr any "
    "all divmod iter next map Exception ValueError TypeError KeyError IndexError LookupError ZeroDivisionError "
    "ArithmeticError OverflowError RuntimeError NotImplementedError AttributeError property staticmethod classmethod "
    "super NotImplemented".split())
METHODS = set(
    "append clear copy count endswith extend find get index insert isalnum isalpha isdigit islower isspace isupper "
    "items join keys ljust lower lstrip partition pop remove replace reverse rfind rjust rpartition rsplit rstrip "
    "setdefault split splitlines startswith strip update upper values zfill bit_length add discard".split())
CHANGING = set("append clear extend insert pop remove reverse setdefault update sort add discard".split())
DUNDERS = set(
    "init eq repr str len enter exit call iter lt le gt ge ne add sub mul floordiv mod pow and or xor lshift rshift "
    "neg pos invert abs bool contains getitem setitem".split())
NO_NAMES = set(
    "register mro elements open input law version_info with_traceback add_note attrgetter breakpoint builtins compile "
    "copyright credits delattr dir eval exec exit gc globals help id importlib license locals methodcaller os quit "
    "type vars sys typing enum Enum Generic Protocol ABC namedtuple dataclass overload contextmanager".split())
NO_BEGINNINGS = ("_wall", "_pe_", "_dcw_", "_enum_", "_cm_", "_twin_re_", "_lay_", "_law_", "_stub_", "_sre")
# Doctests give Python a name `_` of their own.
BUILT_IN = set(dir(builtins)) - {"_"}
VIEWS = ("zip", "enumerate", "reversed", "range", "items", "keys", "values")
TAKERS = set("list tuple dict sorted sum any all enumerate zip min max len reversed".split())


def trees():
    """The syntax tree of each file, by its module name."""
    found = {}
    for path in sorted(PACKAGE.rglob("*")):
        if path.suffix == ".py":
            name = ".".join(path.relative_to(PACKAGE.parent).with_suffix("").parts)
            with warnings.catch_warnings():
                warnings.simplefilter("error")
                found[name.removesuffix(".__init__")] = ast.parse(path.read_text("utf-8"))
    return found


def functions(tree):
    return [node for node in ast.walk(tree) if isinstance(node, ast.FunctionDef)]


def classes(tree):
    return [node for node in ast.walk(tree) if isinstance(node, ast.ClassDef)]


def parameters(function):
    given = function.args
    return [one.arg for one in [*given.posonlyargs, *given.args, *given.kwonlyargs, given.vararg, given.kwarg] if one]


def called(node):
    """The name under which something is called: f in f(x) and in a.f(x)."""
    if isinstance(node, ast.Call):
        return node.func.id if isinstance(node.func, ast.Name) else getattr(node.func, "attr", None)
    return None


def in_files():
    """L1, L10, L14: what the files consist of."""
    for path in PACKAGE.rglob("*"):
        if path.is_dir() or "__pycache__" in path.parts:
            continue
        text = path.read_text("utf-8")
        lines = text.split("\n")
        if not re.fullmatch(r"[a-z0-9_]+\.py", path.name):
            yield f"{path.name}: L1 name"
        if len(lines) > 400 or max(map(len, lines)) > 120:
            yield f"{path.name}: L10 size"
        if not all(" " <= character <= "~" or character == "\n" for character in text):
            yield f"{path.name}: L14 character"


def in_imports(all_trees):
    """L2, L16: imports, and no two files that import each other."""
    above = {}
    for module, tree in all_trees.items():
        above[module] = set()
        for node in ast.walk(tree):
            if isinstance(node, ast.Import):
                yield f"{module}:{node.lineno} L16 import"
            if not isinstance(node, ast.ImportFrom):
                continue
            names = [one.name for one in node.names]
            if node.module in LIBRARY:
                fine = set(names) <= set(LIBRARY[node.module].split())
            else:
                fine = node.module in all_trees and set(names) <= bound_above(all_trees[node.module])
                above[module].add(node.module)
            if not fine or node.level or any(one.asname for one in node.names) or node not in tree.body:
                yield f"{module}:{node.lineno} L2 import"
    while above:
        free = [module for module in above if not above[module] & set(above)]
        if not free:
            yield f"L16 files that import each other: {sorted(above)}"
            return
        for module in free:
            del above[module]


def bound_above(tree):
    """The names that a file itself defines at module level."""
    found = {node.name for node in tree.body if isinstance(node, (ast.FunctionDef, ast.ClassDef))}
    return found | {node.targets[0].id for node in tree.body if isinstance(node, ast.Assign)}


def in_nodes(module, tree, methods):
    """L5 to L8, L20, L25, L27: statements, values, builtins and methods."""
    parents = {child: node for node in ast.walk(tree) for child in ast.iter_child_nodes(node)}
    for node in ast.walk(tree):
        where = f"{module}:{getattr(node, 'lineno', 0)}"
        if isinstance(node, (ast.Global, ast.AsyncFunctionDef, ast.Await, ast.Div, ast.GeneratorExp, ast.YieldFrom)):
            yield f"{where} {type(node).__name__}"
        if isinstance(node, ast.Constant):
            if isinstance(node.value, (float, complex)) or isinstance(node.value, str) and "%" in node.value:
                yield f"{where} L7, L27 constant"
        if isinstance(node, ast.Name) and isinstance(node.ctx, ast.Load):
            if node.id in BUILT_IN and node.id not in BUILTINS:
                yield f"{where} L8 builtin {node.id}"
        if isinstance(node, ast.Call) and isinstance(node.func, ast.Attribute):
            if node.func.attr not in METHODS and node.func.attr not in methods:
                yield f"{where} L25 method {node.func.attr}"
        if isinstance(node, ast.Compare) and any(isinstance(op, (ast.Is, ast.IsNot)) for op in node.ops):
            if not (isinstance(node.comparators[0], ast.Constant) and node.comparators[0].value in (None, True, False)):
                yield f"{where} L20 is"
        if called(node) in VIEWS and called(node) not in methods and not iterated_at_once(node, parents[node]):
            yield f"{where} L23 {called(node)}"
        if isinstance(node, ast.BinOp) and isinstance(node.op, ast.Pow):
            if not (isinstance(node.right, ast.Constant) and node.right.value in range(65)):
                yield f"{where} L27 power"
        if isinstance(node, ast.AugAssign) and (isinstance(node.op, ast.Pow) or not isinstance(node.value, ast.Constant)):
            yield f"{where} L5 growing assignment"
        if isinstance(node, ast.Call) and any(isinstance(one, ast.Starred) for one in node.args):
            if called(node) in (BUILTINS | NAMES_OF_LIBRARY) - {"max", "min", "zip"}:
                yield f"{where} L7 star"
        if called(node) == "reversed" and called(node.args[0]) not in ("list", "tuple", "sorted", "range"):
            yield f"{where} L5 reversed"


def iterated_at_once(node, parent):
    if isinstance(parent, (ast.For, ast.comprehension)):
        return node is parent.iter
    if isinstance(parent, ast.Compare):
        return called(node) == "range"
    if isinstance(parent, ast.Assign):
        return called(node) == "range" and isinstance(parent.targets[0], ast.Name)
    return called(parent) in TAKERS


def in_names(module, tree):
    """L12, L15, L17: what is called how."""
    imported = {one.name for node in ast.walk(tree) if isinstance(node, ast.ImportFrom) for one in node.names}
    kinds = {node.name for node in classes(tree)}
    for node in ast.walk(tree):
        where = f"{module}:{getattr(node, 'lineno', 0)}"
        names = []
        if isinstance(node, ast.Name) and isinstance(node.ctx, ast.Store):
            names = [node.id]
        if isinstance(node, (ast.FunctionDef, ast.Lambda)):
            names = parameters(node)
        for name in names:
            if name in imported | kinds or name in BUILT_IN:
                yield f"{where} L15 {name}"
        names += [node.name] if isinstance(node, (ast.FunctionDef, ast.ClassDef)) else []
        names += [node.attr] if isinstance(node, ast.Attribute) else []
        for name in names:
            if name in NO_NAMES or name.startswith(NO_BEGINNINGS):
                yield f"{where} L17 {name}"
            if name.startswith("__") and name.strip("_") not in DUNDERS or not re.fullmatch(r"\w+", name, re.ASCII):
                yield f"{where} L12 {name}"
        if isinstance(node, ast.FunctionDef) and node.end_lineno - node.lineno >= 40:
            yield f"{where} L10 {node.name}"


def in_classes(all_trees):
    """L5, L18, L23: methods, attributes and class values, and generators with names of their own."""
    assigned, methods, generators, constant = set(), [], [], set()
    for tree in all_trees.values():
        for kind in classes(tree):
            mine = [node.name for node in kind.body if isinstance(node, ast.FunctionDef)]
            fields = {node.attr for node in ast.walk(kind)
                      if isinstance(node, ast.Attribute) and isinstance(node.ctx, ast.Store)}
            for name in set(mine) & fields:
                yield f"L18 {kind.name}.{name} is a method and an attribute"
            values = {node.targets[0].id for node in kind.body if isinstance(node, ast.Assign)}
            assigned |= fields | values
            constant |= values
            methods += mine
        for function in functions(tree):
            if any(isinstance(node, ast.Yield) for node in ast.walk(function)):
                generators.append(function.name)
    every = [function.name for tree in all_trees.values() for function in functions(tree)]
    for name in generators:
        if every.count(name) > 1:
            yield f"L23 generator {name}"
    for module, tree in all_trees.items():
        for node in ast.walk(tree):
            if isinstance(node, ast.Attribute) and node.attr not in assigned | set(methods) | METHODS:
                yield f"{module}:{node.lineno} L18 attribute {node.attr}"
            if isinstance(node, ast.Attribute) and not isinstance(node.value, ast.Name):
                if node.attr in constant or isinstance(node.ctx, ast.Store):
                    yield f"{module}:{node.lineno} L5, L18 {node.attr} of something without a name"


def in_properties(all_trees):
    """L5: a property, a class value, a static or class method shares its name with nothing else in a class."""
    plain, special = [], []
    for tree in all_trees.values():
        for kind in classes(tree):
            for node in kind.body:
                if isinstance(node, ast.FunctionDef):
                    (special if node.decorator_list else plain).append(node.name)
                elif isinstance(node, ast.Assign):
                    plain.append(node.targets[0].id)
            plain += [node.attr for node in ast.walk(kind)
                      if isinstance(node, ast.Attribute) and isinstance(node.ctx, ast.Store)]
    for name in special:
        if name in plain or name in METHODS or special.count(name) > 1:
            yield f"L5 property {name}"


def in_sequences(all_trees):
    """L5: what a class that is iterated over or indexed has."""
    for module, tree in all_trees.items():
        for kind in classes(tree):
            own = {node.name: node for node in kind.body if isinstance(node, ast.FunctionDef)}
            if "__getitem__" in own and "__iter__" not in own:
                yield f"{module} L5 {kind.name} has no __iter__"
            iterated = r"return iter\(self\.\w+\)|raise TypeError\('[^']*'\)"
            if "__iter__" in own and not re.fullmatch(iterated, ast.unparse(own["__iter__"].body[-1])):
                yield f"{module} L5 {kind.name}.__iter__"
            if "__len__" in own and not re.fullmatch(r"return len\(self\.\w+\)", ast.unparse(own["__len__"].body[-1])):
                yield f"{module} L28 {kind.name}.__len__"


def in_comprehensions(module, tree):
    """L7: the variable of a comprehension in another one is no name that its function assigns."""
    kinds = (ast.ListComp, ast.SetComp, ast.DictComp)
    for function in functions(tree):
        every = [node for node in ast.walk(function) if isinstance(node, kinds)]
        inner = {id(node) for one in every for node in ast.walk(one) if isinstance(node, kinds) and node is not one}
        own = {id(node) for one in every for loop in one.generators for node in ast.walk(loop.target)}
        stored = {node.id for node in ast.walk(function) if isinstance(node, ast.Name)
                  and isinstance(node.ctx, ast.Store) and id(node) not in own} | set(parameters(function))
        for one in every:
            for loop in one.generators:
                names = {node.id for node in ast.walk(loop.target) if isinstance(node, ast.Name)}
                if id(one) in inner and names & stored:
                    yield f"{module}:{one.lineno} L7 {sorted(names & stored)}"


def root(node):
    """The innermost thing that an index or an attribute is taken of."""
    while isinstance(node, (ast.Subscript, ast.Attribute)):
        node = node.value
    return node


def targets(node):
    """The single targets of an assignment, a deletion or a loop."""
    given = getattr(node, "targets", None) or [getattr(node, "target", None)]
    for one in given:
        yield from (one.elts if isinstance(one, (ast.Tuple, ast.List)) else [one] if one else [])


def changed(node):
    """The things that a node changes: what it assigns an item or an attribute of, and what it appends to."""
    if isinstance(node, (ast.Assign, ast.AugAssign, ast.Delete, ast.For)):
        yield from (one for one in targets(node) if isinstance(one, (ast.Subscript, ast.Attribute)))
    if called(node) in CHANGING and isinstance(node.func, ast.Attribute):
        yield node.func


def thing(node):
    """The name or the attribute that items or slices are taken of, as it is written; None for everything else."""
    while isinstance(node, ast.Subscript):
        node = node.value
    return ast.unparse(node) if isinstance(node, (ast.Name, ast.Attribute)) else None


def in_loops(module, tree):
    """L23: what a loop goes over is not changed in it, not under another name, either."""
    for function in functions(tree):
        shared = shared_things(function)
        for loop in [node for node in ast.walk(function) if isinstance(node, ast.For)]:
            walked = {other for one in gone_over(loop.iter) for other in shared.get(one, {one})}
            for node in [inner for statement in loop.body for inner in ast.walk(statement)]:
                for one in changed(node):
                    if {thing(one), thing(one.value)} & walked:
                        yield f"{module}:{node.lineno} L23 changed in its loop"


def shared_things(function):
    """For each thing of a function the things that may be the same list, or one that it is cut out of.

    A slice may be the thing itself, since a class of the package is indexed, too. An item is taken for what it is
    taken of, which is narrower than the rule.
    """
    shared = {}
    for node in ast.walk(function):
        if isinstance(node, (ast.Assign, ast.NamedExpr)):
            for one in [one for one in targets(node) if thing(one)]:
                for other in {thing(given) for given in given_by(node.value)} - {None}:
                    together = shared.get(thing(one), {thing(one)}) | shared.get(other, {other})
                    for member in together:
                        shared[member] = together
    return shared


def given_by(value):
    """The names, attributes, items and slices that the value of an assignment may be."""
    if isinstance(value, ast.IfExp):
        return given_by(value.body) + given_by(value.orelse)
    if isinstance(value, ast.BoolOp):
        return [one for inner in value.values for one in given_by(inner)]
    return [value] if isinstance(value, (ast.Name, ast.Attribute, ast.Subscript)) else []


def gone_over(node):
    """The things that a loop over the node goes over, or a part of which; not those of which it goes over an item."""
    if called(node) in ("enumerate", "zip", "reversed", "items", "keys", "values"):
        inner = [*node.args, *([node.func.value] if isinstance(node.func, ast.Attribute) else [])]
        return {found for one in inner for found in gone_over(one)}
    if isinstance(node, ast.Subscript):
        return gone_over(node.value) if isinstance(node.slice, ast.Slice) else set()
    if isinstance(node, (ast.IfExp, ast.BoolOp)):
        return {found for one in given_by(node) for found in gone_over(one)}
    return {thing(node)} - {None}


def is_fresh(value):
    """True if the value of an assignment is surely a new list, dict or set.

    `[0] * n` is not: in a package whose classes have a `__mul__`, it may be anything unless n is plainly a number.
    Neither is a slice, since a class of the package has a `__getitem__`.
    """
    if isinstance(value, ast.BinOp):
        return isinstance(value.op, ast.Add) and is_fresh(value.left) and is_fresh(value.right)
    new = (ast.List, ast.Dict, ast.Set, ast.ListComp, ast.DictComp, ast.SetComp)
    return isinstance(value, new) or called(value) in ("list", "dict", "set", "sorted")


def own_things(function):
    """The local names that are only ever assigned new lists, dicts or sets."""
    values = {}
    for node in ast.walk(function):
        if isinstance(node, (ast.Assign, ast.For, ast.AugAssign)):
            single = isinstance(node, ast.Assign) and isinstance(node.targets[0], ast.Name)
            for one in targets(node):
                if isinstance(one, ast.Name):
                    values.setdefault(one.id, []).append(single and is_fresh(node.value))
    return {name for name, fresh in values.items() if all(fresh)} - set(parameters(function))


def in_operators(all_trees):
    """L5, L18, L28: what an operator or a property runs changes only lists and dicts that it made itself, and calls
    nothing that it is passed or that an object holds: no method whose name some class has as an attribute, either."""
    held = {node.attr for tree in all_trees.values() for kind in classes(tree) for node in ast.walk(kind)
            if isinstance(node, ast.Attribute) and isinstance(node.ctx, ast.Store)}
    known, waiting = {}, []
    for module, tree in all_trees.items():
        for node in functions(tree):
            known.setdefault(node.name, []).append((module, node))
            is_property = any(isinstance(one, ast.Name) and one.id == "property" for one in node.decorator_list)
            if node.name.startswith("__") and node.name not in ("__init__", "__setitem__", "__call__") or is_property:
                waiting.append((module, node))
        for kind in classes(tree):
            known[kind.name] = [(module, node) for node in functions(kind) if node.name == "__init__"]
    seen = []
    while waiting:
        module, function = waiting.pop()
        if function in seen:
            continue
        seen.append(function)
        own = own_things(function)
        local = {node.id for node in ast.walk(function) if isinstance(node, ast.Name) and isinstance(node.ctx, ast.Store)}
        for node in ast.walk(function):
            where = f"{module}:{getattr(node, 'lineno', 0)} L5 in an operator"
            if isinstance(node, ast.Yield) or called(node) == "map":
                yield where
            for one in changed(node):
                plain = isinstance(one, ast.Attribute) and isinstance(one.ctx, ast.Store)
                if plain and function.name == "__init__" and isinstance(one.value, ast.Name):
                    continue
                if plain or not isinstance(root(one), ast.Name) or root(one).id not in own:
                    yield where
            if isinstance(node, ast.Call):
                if isinstance(node.func, ast.Name) and node.func.id in local | set(parameters(function)) - {"cls"}:
                    yield where
                if isinstance(node.func, ast.Attribute) and node.func.attr in held:
                    yield f"{where} .{node.func.attr}(..), which may be an attribute"
                if called(node) not in METHODS:
                    waiting.extend(known.get(called(node), []))


def faults():
    """All places of the package that break a rule."""
    all_trees = trees()
    methods = {function.name for tree in all_trees.values() for kind in classes(tree) for function in functions(kind)}
    found = [*in_files(), *in_imports(all_trees), *in_classes(all_trees), *in_operators(all_trees),
             *in_properties(all_trees), *in_sequences(all_trees)]
    for module, tree in all_trees.items():
        found += [*in_nodes(module, tree, methods), *in_names(module, tree), *in_loops(module, tree),
                  *in_comprehensions(module, tree)]
    return found
