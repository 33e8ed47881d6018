"""L4, L5, L6, L15, L18, L28: what stands in classes, what operators and properties change, and tables of modules."""

import ast

from tools.places import CHANGING
from tools.source import BUILTIN_METHODS, called_name

TWO_SIDED = {
    f"__{name}__"
    for name in (
        "eq lt le gt ge ne add sub mul floordiv mod pow and or xor lshift rshift radd rsub rmul rfloordiv rmod rand ror "
        "rxor rlshift rrshift iadd isub imul ifloordiv imod ipow iand ior ixor ilshift irshift contains getitem"
    ).split()
}
ONE_SIDED = {f"__{name}__" for name in "neg pos invert abs bool len iter repr str enter".split()}
IN_PLACE = {name for name in TWO_SIDED if name.startswith("__i") and name != "__invert__"}
READING = (TWO_SIDED | ONE_SIDED) - IN_PLACE - {"__enter__", "__iter__"}
ASKING = set("len sorted list tuple dict enumerate sum min max any all".split())


def parameters(node):
    return [one.arg for one in node.args.args]


def is_property(node):
    return any(isinstance(one, ast.Name) and one.id == "property" for one in node.decorator_list)


def is_setter(node):
    return any(isinstance(one, ast.Attribute) and one.attr == "setter" for one in node.decorator_list)


def method_form_faults(source):
    """L5, L6, L18, L28: the parameters of double-underscore methods and properties, and what these return."""
    for owner in source.classes:
        names = [node.name for node in owner.body if isinstance(node, ast.FunctionDef) and not is_setter(node)]
        for name in sorted({name for name in names if names.count(name) > 1}):
            yield owner.lineno, "L18", f"{name} is defined twice"
        if "__getitem__" in names and "__iter__" not in names and not owner.bases:
            yield owner.lineno, "L5", "__getitem__ without __iter__"
    for node in source.methods:
        told = len(parameters(node))
        has_more = node.args.defaults or node.args.kwonlyargs or node.args.vararg or node.args.kwarg
        wanted = 2 if node.name in TWO_SIDED else 1 if node.name in ONE_SIDED or is_property(node) else None
        if wanted is not None and (told != wanted or has_more):
            yield node.lineno, "L5", f"the parameters of {node.name}"
        if is_property(node) and node.name in BUILTIN_METHODS:
            yield node.lineno, "L5", f"the property {node.name}"
        yield from return_faults(node)


def return_faults(node):
    returned = [part for part in ast.walk(node) if isinstance(part, ast.Return)]
    if node.name == "__init__" and any(part.value is not None for part in returned):
        yield node.lineno, "L28", "__init__ returns something"
    if node.name == "__len__":
        for part in returned:
            if called_name(part.value) != "len" and not isinstance(part.value, ast.Constant):
                yield part.lineno, "L28", "__len__ returns something else than len(..)"
    if node.name in ("__len__", "__repr__", "__str__") and not isinstance(node.body[-1], ast.Return):
        yield node.lineno, "L28", f"{node.name} does not end with a return"
    if node.name == "__iter__":
        rows = [row for row in node.body if not (isinstance(row, ast.Expr) and isinstance(row.value, ast.Constant))]
        is_raise = len(rows) == 1 and isinstance(rows[0], ast.Raise) and called_name(rows[0].exc) == "TypeError"
        is_iter = len(rows) == 1 and isinstance(rows[0], ast.Return) and called_name(rows[0].value) == "iter"
        if not is_raise and not is_iter:
            yield node.lineno, "L5", "__iter__ does something else"


def default_faults(source):
    """L4: default values are plain."""
    for node in source.functions:
        for value in [*node.args.defaults, *[one for one in node.args.kw_defaults if one is not None]]:
            if any(isinstance(part, (ast.Call, ast.List, ast.Dict, ast.Set, ast.Lambda)) for part in ast.walk(value)):
                yield node.lineno, "L4", f"a default value of {node.name}"


def named_functions(sources):
    """A dict from names to all functions and methods of the package that have them."""
    found = {}
    for source in sources:
        for node in source.functions:
            found.setdefault(node.name, []).append((source, node))
    return found


def called_names(node):
    """The names of the functions and methods that a function calls, or asks for as properties."""
    found = set()
    for part in ast.walk(node):
        if isinstance(part, ast.Call) and isinstance(part.func, ast.Name):
            found.add(part.func.id)
        if isinstance(part, ast.Attribute) and isinstance(part.ctx, ast.Load):
            found.add(part.attr)
    return found


def reading_faults(source, sources):
    """L5, L28: operators, properties and the like change nothing, nor does what they call."""
    named = named_functions(sources)
    for node in source.methods:
        if node.name not in READING and not is_property(node):
            continue
        seen = []
        waiting = [(source, node)]
        while waiting:
            place = waiting.pop()
            if place not in seen:
                seen.append(place)
                for name in called_names(place[1]):
                    waiting.extend(one for one in named.get(name, ()) if one[1].name != "__init__")
        for place, one in seen:
            for line in changing_lines(one):
                yield node.lineno, "L5", f"{node.name} changes something by {place.name}:{line}"


def own_lists(node):
    """The names of the local variables of a function that only lists and dicts made by it are assigned to."""
    made, others = set(), set(parameters(node))
    for part in ast.walk(node):
        if isinstance(part, ast.Assign):
            names = {name.id for target in part.targets for name in ast.walk(target) if isinstance(name, ast.Name)}
            is_own = isinstance(part.value, (ast.List, ast.ListComp)) or called_name(part.value) in ("list", "sorted")
            (made if is_own or isinstance(part.value, ast.Dict) else others).update(names)
    return made - others


def changing_lines(node):
    """The lines in which a function changes something that is not its own."""
    own = own_lists(node)
    for part in ast.walk(node):
        place = None
        if isinstance(part, (ast.Attribute, ast.Subscript)) and isinstance(part.ctx, (ast.Store, ast.Del)):
            place = part.value if isinstance(part, ast.Subscript) else part
        if isinstance(part, ast.Call) and isinstance(part.func, ast.Attribute) and part.func.attr in CHANGING:
            place = part.func.value
        if place is not None and not (isinstance(place, ast.Name) and place.id in own):
            yield part.lineno


def with_faults(source):
    """L6: with stands over calls, names and attributes; __exit__ has plain rows alone."""
    for node in source.nodes:
        if isinstance(node, ast.With):
            for item in node.items:
                is_plain = isinstance(item.context_expr, (ast.Call, ast.Name, ast.Attribute))
                if not is_plain or not isinstance(item.optional_vars, (ast.Name, type(None))):
                    yield node.lineno, "L6", "with over something else"
    for node in source.methods:
        if node.name == "__exit__":
            starred = parameters(node) == ["self"] and node.args.vararg is not None
            if not starred and parameters(node) != ["self", "kind", "value", "trace"]:
                yield node.lineno, "L6", "the parameters of __exit__"
            for row in node.body:
                if not is_exit_row(row):
                    yield row.lineno, "L6", "this cannot stand in __exit__"


def is_simple(node):
    """What L6 lets be assigned in __exit__; numbers that are taken off are left out here."""
    if isinstance(node, (ast.List, ast.Tuple)):
        return all(is_simple(part) for part in node.elts)
    if isinstance(node, ast.Attribute):
        return is_simple(node.value)
    return isinstance(node, (ast.Name, ast.Constant))


def is_exit_row(row):
    if isinstance(row, ast.Return):
        return row.value is None or isinstance(row.value, ast.Constant) and row.value.value in (None, False)
    if isinstance(row, ast.Assign):
        return all(isinstance(target, ast.Attribute) for target in row.targets) and is_simple(row.value)
    is_docstring = isinstance(row, ast.Expr) and isinstance(row.value, ast.Constant)
    return isinstance(row, ast.Pass) or is_docstring


def property_faults(source, sources):
    """L5: a property is not assigned unless it has a setter; nothing else has its name."""
    methods = [node for other in sources for node in other.methods]
    properties = {node.name for node in methods if is_property(node)}
    settable = {node.name for node in methods if is_setter(node)}
    for node in source.nodes:
        if isinstance(node, ast.Attribute) and node.attr in properties:
            if not isinstance(node.ctx, ast.Load) and node.attr not in settable:
                yield node.lineno, "L5", f"the property {node.attr} is assigned"
            parent = source.parents[node]
            if isinstance(parent, ast.Call) and parent.func == node:
                yield node.lineno, "L5", f"the property {node.attr} is called"
    for node in source.methods:
        if node.name in properties and not is_property(node) and not is_setter(node):
            yield node.lineno, "L5", f"{node.name} is a property elsewhere"


def tables(sources):
    """The names of the lists and dicts that stand at module level."""
    found = set()
    for source in sources:
        for node in source.tree.body:
            if isinstance(node, ast.Assign) and isinstance(node.value, (ast.List, ast.Dict)):
                found |= {target.id for target in node.targets if isinstance(target, ast.Name)}
    return found


def table_faults(source, sources):
    """L15: a list or dict at module level has none in it, and is only read."""
    names = tables(sources)
    for node in source.tree.body:
        if isinstance(node, ast.Assign) and isinstance(node.value, (ast.List, ast.Dict)):
            inner = [part for part in ast.walk(node.value) if part != node.value]
            if any(isinstance(part, (ast.List, ast.Dict)) for part in inner):
                yield node.lineno, "L15", "a list or dict in another one at module level"
    for node in source.nodes:
        if isinstance(node, ast.Name) and node.id in names and source.parents[node] not in source.tree.body:
            if not is_reading(source, node):
                yield node.lineno, "L15", f"the table {node.id} is used otherwise than to be read"


def is_reading(source, node):
    parent = source.parents[node]
    if isinstance(parent, ast.Subscript):
        return parent.value == node and isinstance(parent.ctx, ast.Load) or parent.slice == node
    if isinstance(parent, (ast.Compare, ast.For, ast.comprehension)):
        return True
    if isinstance(parent, ast.Attribute):
        return parent.attr in ("get", "items", "keys", "values", "index", "count", "copy")
    return called_name(parent) in ASKING
