"""L22 to L25: where builtins, their methods, and what they return may stand, and what a loop may change."""

import ast

from tools.source import BUILTIN_METHODS, called_name, own_methods

CALLED_ONLY = set(
    "range enumerate zip sorted reversed isinstance ord repr any all divmod iter next print".split()
)
AS_KEY = set("len abs sum min max".split())
KEYWORDS = {
    "sorted": {"key", "reverse"},
    "min": {"key", "default"},
    "max": {"key", "default"},
    "sum": {"start"},
    "enumerate": {"start"},
    "zip": {"strict"},
}
WITHOUT_KEYWORDS = set("len range abs reversed int str bool bytes list tuple dict set frozenset repr any all".split())
ITERATED_AT_ONCE = set("zip enumerate reversed range".split())
VIEWS = set("items keys values".split())
ITERATING = set("list tuple dict sorted sum any all enumerate zip bytes iter".split())
CHANGING = set("append clear extend insert pop remove reverse setdefault update sort add discard".split())


def builtin_faults(source):
    """L22: builtins are called, with the keywords that they take."""
    for node in source.nodes:
        parent = source.parents.get(node)
        if isinstance(node, ast.Name) and isinstance(node.ctx, ast.Load) and node.id in CALLED_ONLY | AS_KEY:
            is_called = isinstance(parent, ast.Call) and parent.func == node
            is_key = isinstance(parent, ast.keyword) and parent.arg == "key" and node.id in AS_KEY
            if not is_called and not is_key:
                yield node.lineno, "L22", f"{node.id} is not called"
        name = called_name(node)
        if name in KEYWORDS or name in WITHOUT_KEYWORDS:
            for keyword in node.keywords:
                if keyword.arg not in KEYWORDS.get(name, set()) and not (keyword.arg is None and name == "dict"):
                    yield node.lineno, "L22", f"the keyword {keyword.arg} of {name}"


def method_faults(source, sources):
    """L25: methods of builtin values are called where they stand, without keywords."""
    own = own_methods(sources)
    for node in source.nodes:
        if not isinstance(node, ast.Attribute) or node.attr not in BUILTIN_METHODS - own:
            continue
        parent = source.parents[node]
        is_called = isinstance(parent, ast.Call) and parent.func == node
        # An attribute of an own object may have such a name.
        if not is_called and isinstance(node.ctx, ast.Load) and node.attr in CHANGING | VIEWS | {"join", "split"}:
            yield node.lineno, "L25", f"{node.attr} is not called"
        if is_called and parent.keywords and node.attr not in ("sort", "from_bytes"):
            yield node.lineno, "L25", f"a keyword of {node.attr}"


def iterable_faults(source):
    """L23: zip, range, items and the like are iterated on the spot."""
    for node in source.nodes:
        if not isinstance(node, ast.Call):
            continue
        is_view = isinstance(node.func, ast.Attribute) and node.func.attr in VIEWS and not node.args
        if (is_view or called_name(node) in ITERATED_AT_ONCE) and not is_iterated(source, node):
            yield node.lineno, "L23", "what has to be iterated on the spot"


def is_iterated(source, node):
    parent = source.parents[node]
    if isinstance(parent, (ast.For, ast.comprehension)):
        return parent.iter == node
    if isinstance(parent, ast.Compare) and isinstance(parent.ops[0], (ast.In, ast.NotIn)):
        return called_name(node) == "range" or getattr(node.func, "attr", None) == "keys"
    if isinstance(parent, ast.YieldFrom):
        return True
    name = called_name(parent)
    if name in ("len", "reversed"):
        return called_name(node) == "range"
    if name in ("min", "max"):
        return len(parent.args) == 1
    if name == "zip":
        return True
    is_join = isinstance(parent, ast.Call) and isinstance(parent.func, ast.Attribute) and parent.func.attr == "join"
    return is_join or name in ITERATING and parent.args[:1] == [node]


def changed_loop_faults(source):
    """L23: a loop does not change what it iterates over."""
    for node in source.nodes:
        if isinstance(node, ast.For):
            names = {part.id for part in ast.walk(node.iter) if isinstance(part, ast.Name) and is_walked(node, part)}
            for part in [inner for row in node.body for inner in ast.walk(row)]:
                if changed_name(part) in names:
                    yield part.lineno, "L23", f"the loop changes {changed_name(part)}, over which it iterates"


def is_walked(loop, name):
    """Whether a loop iterates over what a name has, itself or through zip, items and the like."""
    waiting = [loop.iter]
    while waiting:
        node = waiting.pop()
        if node == name:
            return True
        if isinstance(node, ast.Call) and called_name(node) in ITERATED_AT_ONCE - {"range"}:
            waiting.extend(node.args)
        if isinstance(node, ast.Call) and isinstance(node.func, ast.Attribute) and node.func.attr in VIEWS:
            waiting.append(node.func.value)
    return False


def changed_name(node):
    """The name of the list or dict that a node changes, or None."""
    place = None
    if isinstance(node, ast.Subscript) and isinstance(node.ctx, (ast.Store, ast.Del)):
        place = node.value
    if isinstance(node, ast.Call) and isinstance(node.func, ast.Attribute) and node.func.attr in CHANGING:
        place = node.func.value
    if isinstance(node, ast.AugAssign):
        place = node.target
    return place.id if isinstance(place, ast.Name) else None


def is_set(node):
    return isinstance(node, (ast.Set, ast.SetComp)) or called_name(node) == "set"


def set_faults(source):
    """L24: a set stands behind in, beside == of another one, in sorted or len, or is stored in a variable."""
    for node in source.nodes:
        if not is_set(node):
            continue
        part, parent = node, source.parents[node]
        while isinstance(parent, ast.BinOp) and isinstance(parent.op, (ast.Sub, ast.BitAnd, ast.BitOr, ast.BitXor)):
            part, parent = parent, source.parents[parent]
        if isinstance(parent, ast.Compare):
            sides = [parent.left, *parent.comparators]
            behind_in = isinstance(parent.ops[0], (ast.In, ast.NotIn)) and parent.left != part
            beside = isinstance(parent.ops[0], (ast.Eq, ast.NotEq)) and all(has_set(side) for side in sides)
            allowed = len(sides) == 2 and (behind_in or beside)
        else:
            is_stored = isinstance(parent, ast.Assign) and part == node and is_plain_target(parent)
            allowed = is_stored or called_name(parent) in ("sorted", "len") and parent.args[:1] == [part]
        if not allowed:
            yield node.lineno, "L24", "a set that cannot stand here"


def has_set(node):
    return is_set(node) or isinstance(node, ast.BinOp) and is_set(node.left) and is_set(node.right)


def is_plain_target(node):
    return len(node.targets) == 1 and isinstance(node.targets[0], ast.Name)


def stored_set_faults(source):
    """L24: how a set that is stored in a variable is used."""
    for function in source.functions:
        inner = list(ast.walk(function))
        stored = [node.targets[0].id for node in inner if isinstance(node, ast.Assign) and is_set(node.value)]
        for node in inner:
            if isinstance(node, ast.arg) and node.arg in stored:
                yield node.lineno, "L24", f"{node.arg} is a parameter and a set"
            if isinstance(node, ast.Name) and node.id in stored and not is_allowed_use(source, node, stored):
                yield node.lineno, "L24", f"the set {node.id} is used otherwise"
        for name in sorted({name for name in stored if stored.count(name) > 1}):
            yield function.lineno, "L24", f"{name} is assigned a set twice"


def is_allowed_use(source, node, stored):
    parent = source.parents[node]
    if isinstance(node.ctx, ast.Store):
        return isinstance(parent, ast.Assign) and is_set(parent.value)
    if isinstance(parent, ast.Attribute):
        call = source.parents[parent]
        is_statement = isinstance(call, ast.Call) and isinstance(source.parents[call], ast.Expr)
        return is_statement and parent.attr in ("add", "discard")
    if isinstance(parent, ast.Compare):
        if isinstance(parent.ops[0], (ast.Eq, ast.NotEq)):
            return all(isinstance(side, ast.Name) and side.id in stored for side in (parent.left, *parent.comparators))
        return isinstance(parent.ops[0], (ast.In, ast.NotIn)) and parent.left != node
    if isinstance(parent, (ast.If, ast.While, ast.Assert, ast.IfExp)):
        return parent.test == node
    if isinstance(parent, ast.UnaryOp):
        return isinstance(parent.op, ast.Not)
    return called_name(parent) in ("len", "sorted") and parent.args == [node]
