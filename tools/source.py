"""The files of the package as the checks of the rules read them."""

import ast

FUNCTIONS = (ast.FunctionDef, ast.AsyncFunctionDef)
BUILTIN_METHODS = set(
    "append clear copy count endswith extend find get index insert isalnum isalpha isdigit islower isspace isupper "
    "items join keys ljust lower lstrip partition pop remove replace reverse rfind rjust rpartition rsplit rstrip "
    "setdefault split splitlines startswith strip update upper values zfill bit_length title capitalize swapcase "
    "casefold center expandtabs removeprefix removesuffix rindex isascii isdecimal isnumeric istitle isidentifier "
    "isprintable translate maketrans sort add discard encode decode hex from_bytes".split()
)


class Source:
    """One file of the package, read."""

    def __init__(self, name, text):
        self.name = name
        self.text = text
        self.tree = ast.parse(text)
        self.nodes = list(ast.walk(self.tree))
        self.imports = [node for node in self.tree.body if isinstance(node, ast.ImportFrom)]
        self.classes = [node for node in self.nodes if isinstance(node, ast.ClassDef)]
        self.functions = [node for node in self.nodes if isinstance(node, FUNCTIONS)]
        self.methods = [node for owner in self.classes for node in owner.body if isinstance(node, FUNCTIONS)]
        self.parents = {child: node for node in self.nodes for child in ast.iter_child_nodes(node)}

    def module(self):
        path = self.name[: -len(".py")].replace("/", ".")
        return path.removesuffix(".__init__")

    def top_names(self):
        """The names bound at module level, one for each binding."""
        found = [alias.asname or alias.name for node in self.imports for alias in node.names]
        for node in self.tree.body:
            if isinstance(node, (ast.ClassDef, *FUNCTIONS)):
                found.append(node.name)
            if isinstance(node, ast.Assign):
                found.extend(target.id for target in node.targets if isinstance(target, ast.Name))
        return found


def called_name(node):
    return node.func.id if isinstance(node, ast.Call) and isinstance(node.func, ast.Name) else None


def own_methods(sources):
    return {node.name for source in sources for node in source.methods}
