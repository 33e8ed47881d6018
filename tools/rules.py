"""Checks what a script can check of ../shared/LANGUAGE.md, over the files of the package.

python3 -m tools.rules prints a line for each fault, and ends with 1 if there is one.
"""

import ast
import builtins
import re
import sys
from pathlib import Path

from tools.classes import (
    default_faults, method_form_faults, property_faults, reading_faults, table_faults, with_faults,
)
from tools.places import (
    builtin_faults, changed_loop_faults, iterable_faults, method_faults, set_faults, stored_set_faults,
)
from tools.source import BUILTIN_METHODS, Source, called_name, own_methods

PACKAGE = "labelroads"
MOST_FILES = 100
MOST_FILE_LINES = 399
MOST_FUNCTION_LINES = 40
MOST_COLUMNS = 120

BUILTINS = set(
    "len range enumerate zip min max sum abs sorted reversed int str bool bytes list tuple dict set frozenset "
    "isinstance ord repr any all divmod iter next super property staticmethod classmethod Exception ValueError "
    "TypeError KeyError IndexError LookupError ZeroDivisionError ArithmeticError OverflowError RuntimeError "
    "NotImplementedError AttributeError StopIteration NotImplemented".split()
)
SPECIAL_METHODS = {
    f"__{name}__"
    for name in (
        "init eq repr str len enter exit call iter lt le gt ge ne add sub mul floordiv mod pow and or xor lshift "
        "rshift radd rsub rmul rfloordiv rmod rand ror rxor rlshift rrshift iadd isub imul ifloordiv imod ipow iand "
        "ior ixor ilshift irshift neg pos invert abs bool contains getitem setitem"
    ).split()
}
OPERATORS = SPECIAL_METHODS - {f"__{name}__" for name in "init repr str enter exit call iter".split()}
BARRED_WORDS = (
    "type typing typing_extensions enum Enum IntEnum StrEnum Flag IntFlag Generic Protocol ABC ABCMeta namedtuple "
    "NamedTuple TypedDict TYPE_CHECKING abstractmethod".split()
)
BARRED_PARTS = ("dataclass", "overload", "contextmanager")
BARRED_EVERYWHERE = set("register mro elements open input law version_info with_traceback add_note".split())
BARRED_AS_VARIABLE = set(
    "attrgetter breakpoint builtins compile copyright credits delattr dir eval exec exit gc getattr globals hasattr "
    "help id importlib license locals methodcaller os quit setattr super type vars sys".split()
)
BARRED_ATTRIBUTES = set(
    "items keys values pop update append clear extend insert remove reverse setdefault sort args encode decode hex "
    "fromhex format format_map mro".split()
)
BARRED_FILES = set("test tests testing site conftest sitecustomize usercustomize".split())
CAUGHT = {"KeyError", "ZeroDivisionError", "StopIteration", "ValueError", "LookupError", "IndexError"}
EATERS = set("list tuple dict sorted sum min max any all".split())
PLAIN_NAME = re.compile(r"[A-Za-z][A-Za-z0-9_]*\Z")
BARRED_STATEMENTS = (
    ast.Global, ast.AsyncFunctionDef, ast.AsyncFor, ast.AsyncWith, ast.Await, ast.Import, ast.Delete, ast.TryStar,
)


def is_docstring(node):
    return isinstance(node, ast.Expr) and isinstance(node.value, ast.Constant) and isinstance(node.value.value, str)


def text_faults(source):
    """L10, L14, L17: lines, signs, and words that occur nowhere."""
    lines = source.text.split("\n")
    if len(source.text.splitlines()) > MOST_FILE_LINES:
        yield 1, "L10", "too many lines"
    for number, line in enumerate(lines, 1):
        if len(line) > MOST_COLUMNS:
            yield number, "L10", "line too long"
        if not all(" " <= sign <= "~" for sign in line):
            yield number, "L14", "a sign that is none from the space to ~"
        for word in re.findall(r"[A-Za-z0-9_]+", line):
            if word in BARRED_WORDS or any(part in word for part in BARRED_PARTS):
                yield number, "L17", f"the word {word}"


def top_faults(source):
    """L2, L3, L16: imports stand first, by full names; then plain values, functions and classes."""
    imports_over = False
    for place, node in enumerate(source.tree.body):
        if isinstance(node, ast.ImportFrom):
            if imports_over:
                yield node.lineno, "L2", "an import that does not stand at the top"
        elif not (place == 0 and is_docstring(node)):
            imports_over = True
            if not isinstance(node, (ast.FunctionDef, ast.ClassDef)) and not is_plain_assignment(node):
                yield node.lineno, "L3", "this cannot stand at module level"
    for node in source.nodes:
        if isinstance(node, ast.ImportFrom) and node not in source.imports:
            yield node.lineno, "L2", "an import inside something"
    bound = source.top_names()
    for name in sorted({name for name in bound if bound.count(name) > 1}):
        yield 1, "L15", f"{name} is bound more than once"


def is_plain_assignment(node):
    if not isinstance(node, ast.Assign) or len(node.targets) != 1 or not isinstance(node.targets[0], ast.Name):
        return False
    return not any(isinstance(part, (ast.Call, ast.Lambda, ast.comprehension)) for part in ast.walk(node.value))


def import_faults(source, sources):
    """L2, L16: each import names the very file of the package that defines the name."""
    files = {other.module(): other for other in sources}
    for node in source.imports:
        if node.level or node.module not in files or node.module == PACKAGE:
            yield node.lineno, "L2", "an import from no file of the package, or not by its full name"
            continue
        other = files[node.module]
        own = [name for name in other.top_names() if name not in imported_names(other)]
        for alias in node.names:
            if alias.name not in own:
                yield node.lineno, "L16", f"{alias.name} is not defined in {node.module}"
    if source.module() in reached_modules(source, files):
        yield 1, "L16", "a file that imports from itself, through others"


def imported_names(source):
    return {alias.asname or alias.name for node in source.imports for alias in node.names}


def reached_modules(source, files):
    reached = []
    waiting = [node.module for node in source.imports]
    while waiting:
        module = waiting.pop()
        if module in files and module not in reached:
            reached.append(module)
            waiting.extend(node.module for node in files[module].imports)
    return reached


def function_faults(source):
    """L4, L5, L10, L18: sizes, parameters, decorators and names of functions and methods."""
    for node in source.functions:
        if node.end_lineno - node.lineno >= MOST_FUNCTION_LINES:
            yield node.lineno, "L10", f"{node.name} has too many lines"
        if node.args.posonlyargs:
            yield node.lineno, "L4", "a / among the parameters"
        is_method = node in source.methods
        if node.name.startswith("__") and not (is_method and node.name in SPECIAL_METHODS):
            yield node.lineno, "L5", f"{node.name} is not allowed"
        for decorator in node.decorator_list:
            if not is_method or not is_allowed_decorator(decorator):
                yield node.lineno, "L4", "a decorator"
    for node in source.classes:
        if node.decorator_list or source.parents[node] != source.tree:
            yield node.lineno, "L5", "a class with a decorator, or not at module level"


def is_allowed_decorator(node):
    if isinstance(node, ast.Attribute):
        return node.attr == "setter"
    return isinstance(node, ast.Name) and node.id in ("property", "staticmethod", "classmethod")


def bound_names(node):
    """The names that a node itself binds inside a function."""
    if isinstance(node, ast.arg):
        return [node.arg]
    if isinstance(node, ast.Name) and not isinstance(node.ctx, ast.Load):
        return [node.id]
    if isinstance(node, (ast.ExceptHandler, ast.MatchAs, ast.MatchStar)) and node.name:
        return [node.name]
    return []


def name_faults(source):
    """L8, L12, L15, L17: which names are used, and for what."""
    tops = imported_names(source) | {node.name for node in source.classes}
    known = set(source.top_names()) | {name for node in source.nodes for name in bound_names(node)}
    known |= {node.name for node in source.functions}
    for node in source.nodes:
        bound = bound_names(node)
        if isinstance(node, (ast.ClassDef, ast.FunctionDef)) and node not in source.methods:
            bound = [node.name]
        for name in bound:
            yield from bound_faults(node.lineno, name, tops if not isinstance(node, ast.ClassDef) else set())
        if isinstance(node, ast.Name) and isinstance(node.ctx, ast.Load):
            if node.id not in known and node.id not in BUILTINS:
                yield node.lineno, "L8", f"the name {node.id}"
        if isinstance(node, ast.keyword) and node.arg in BARRED_EVERYWHERE:
            yield node.value.lineno, "L17", f"the keyword {node.arg}"


def bound_faults(line, name, tops):
    if not PLAIN_NAME.match(name):
        yield line, "L12", f"the name {name}"
    if name in BARRED_EVERYWHERE or name in BARRED_AS_VARIABLE:
        yield line, "L17", f"the name {name}"
    if name in vars(builtins):
        yield line, "L15", f"{name} is the name of a builtin"
    if name in tops:
        yield line, "L15", f"{name} is the name of a class or an import of this file"


def statement_faults(source):
    """L6, L7, L13, L20: statements, values and expressions."""
    for node in source.nodes:
        if isinstance(node, BARRED_STATEMENTS) and not is_allowed_delete(node):
            yield node.lineno, "L6", "a statement that is not allowed"
        if isinstance(node, (ast.Div, ast.MatMult)):
            yield source.parents[node].lineno, "L7", "a sign that is not allowed"
        if isinstance(node, ast.Constant) and isinstance(node.value, (float, complex)):
            yield node.lineno, "L7", "a number that is no integer"
        if isinstance(node, ast.Constant) and node.value is Ellipsis:
            yield node.lineno, "L7", "..."
        if isinstance(node, ast.Compare) and has_wrong_is(node):
            yield node.lineno, "L20", "is with something else than None, True and False"
        if isinstance(node, ast.Set) and sum(is_integer_literal(part) for part in node.elts) > 2:
            yield node.lineno, "L13", "a set with three or more integers"
        if isinstance(node, ast.GeneratorExp) and called_name(source.parents[node]) not in EATERS:
            yield node.lineno, "L7", "a generator expression that stands in no such call"


def is_allowed_delete(node):
    return isinstance(node, ast.Delete) and all(isinstance(part, (ast.Name, ast.Subscript)) for part in node.targets)


def is_integer_literal(node):
    return isinstance(node, ast.Constant) and isinstance(node.value, int)


def has_wrong_is(node):
    sides = [node.left, *node.comparators]
    for place, operator in enumerate(node.ops):
        if isinstance(operator, (ast.Is, ast.IsNot)):
            pair = sides[place : place + 2]
            if not any(isinstance(side, ast.Constant) and side.value in (None, True, False) for side in pair):
                return True
    return False


def string_faults(source):
    """L14, L27: strings, escapes and powers."""
    for node in source.nodes:
        if isinstance(node, ast.Constant) and isinstance(node.value, str):
            if "%" in node.value:
                yield node.lineno, "L27", "a percent sign in a string"
            if node.value.endswith(("._", ".__")):
                yield node.lineno, "L27", "the end of a string"
            if re.fullmatch(r"__.*__", node.value, re.DOTALL) and node.value != "__main__":
                yield node.lineno, "L27", "two underscores around a string"
        if isinstance(node, ast.BinOp) and isinstance(node.op, ast.Pow) and not isinstance(node.right, ast.Constant):
            yield node.lineno, "L27", "a power that is not literal"
    for number, line in enumerate(source.text.split("\n"), 1):
        if re.search(r"\\[^nt\\'\"]", line.replace("\\\\", "")) and "b\"" not in line and "b'" not in line:
            yield number, "L27", "an escape that is not allowed"


def own_attributes(sources):
    """The names of the attributes that are assigned anywhere, class values too."""
    nodes = [node for source in sources for node in source.nodes]
    stored = {node.attr for node in nodes if isinstance(node, ast.Attribute) and isinstance(node.ctx, ast.Store)}
    values = [part for source in sources for owner in source.classes for part in owner.body]
    return stored | {part.targets[0].id for part in values if is_plain_assignment(part)}


def attribute_faults(source, sources):
    """L18, L25, L26: methods and attributes."""
    methods = own_methods(sources)
    attributes = own_attributes(sources)
    for name in sorted(methods & attributes):
        if not any(node.name == name and node.decorator_list for other in sources for node in other.methods):
            yield 1, "L18", f"{name} is both a method and an attribute"
    for node in source.nodes:
        if not isinstance(node, ast.Attribute):
            continue
        if isinstance(node.ctx, ast.Store) and node.attr in BARRED_ATTRIBUTES | BARRED_EVERYWHERE:
            yield node.lineno, "L26", f"the attribute {node.attr}"
        if not PLAIN_NAME.match(node.attr) and node.attr != "__init__":
            yield node.lineno, "L12", f"the attribute {node.attr}"
        if node.attr not in methods | attributes | BUILTIN_METHODS | {"setter"}:
            yield node.lineno, "L25", f"the method {node.attr}"


def error_faults(source, sources):
    """L19: which errors are caught, and how they are raised."""
    own = {node.name for other in sources for node in other.classes}
    for node in source.nodes:
        if isinstance(node, ast.ExceptHandler):
            named = node.type.elts if isinstance(node.type, ast.Tuple) else [node.type]
            if not named or not all(isinstance(part, ast.Name) and part.id in own | CAUGHT for part in named):
                yield node.lineno, "L19", "a handler of an error that is not caught by name"
        if isinstance(node, ast.Raise) and node.exc is not None:
            if called_name(node.exc) not in own | BUILTINS:
                yield node.lineno, "L19", "an error that is not created on the spot"


def eater_faults(source, sources):
    """L5, L7: where a class has an operator, sum and the like take lists."""
    if not own_methods(sources) & OPERATORS:
        return
    for node in source.nodes:
        if isinstance(node, ast.GeneratorExp) and called_name(source.parents[node]) not in ("list", "tuple", "dict"):
            yield node.lineno, "L5", "a generator expression beside an operator"


def file_faults(names):
    """L1, L14: the names of the files."""
    if len(names) > MOST_FILES:
        yield PACKAGE, 1, "L14", "too many files"
    for name in names:
        stem = Path(name).stem
        if not re.fullmatch(r"[a-z0-9_/]+\.py", name):
            yield name, 1, "L1", "not a lower-case .py file"
        elif stem in BARRED_FILES or stem.startswith(("law_", "test_")) or stem in vars(builtins):
            yield name, 1, "L14", "the name of this file is barred"
        if f"{Path(name).parent}/__init__.py" not in names:
            yield name, 1, "L14", "a folder without __init__.py"
    if PACKAGE in sys.stdlib_module_names:
        yield PACKAGE, 1, "L14", "the name of a module of the standard library"


ALONE = (
    text_faults, top_faults, function_faults, name_faults, statement_faults, string_faults, builtin_faults,
    iterable_faults, changed_loop_faults, set_faults, stored_set_faults, method_form_faults, default_faults,
    with_faults,
)
TOGETHER = (
    import_faults, attribute_faults, error_faults, eater_faults, method_faults, reading_faults, property_faults,
    table_faults,
)


def faults(texts):
    """All faults of a package that is told as a dict from names of files to their texts, as lines."""
    found = [*file_faults(list(texts))]
    sources = [Source(name, text) for name, text in texts.items() if name.endswith(".py")]
    for source in sources:
        for check in ALONE:
            found.extend((source.name, *fault) for fault in check(source))
        for check in TOGETHER:
            found.extend((source.name, *fault) for fault in check(source, sources))
    return [f"{name}:{line}: {rule}: {told}" for name, line, rule, told in found]


def package_texts(root):
    paths = sorted(path for path in (root / PACKAGE).rglob("*") if path.is_file() and "__pycache__" not in path.parts)
    return {path.relative_to(root).as_posix(): path.read_bytes().decode("utf-8") for path in paths}


def main():
    texts = package_texts(Path(__file__).resolve().parent.parent)
    found = faults(texts)
    for line in found:
        print(line)
    print(f"rules: {len(texts)} files, {len(found)} faults")
    return 1 if found or not texts else 0


if __name__ == "__main__":
    sys.exit(main())
