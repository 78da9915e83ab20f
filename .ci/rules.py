"""Checks the files of the package against those rules of the language that can be seen mechanically.

Usage: python3 .ci/rules.py FOLDER. The rules are L1, L2, L4 to L8, L10, L14 to L18, L20 and L25 to L27, in part.
An import that its file does not use is told as well. What operators and properties run (L5) is looked at in operators.py.
"""

import ast
import pathlib
import sys

from operators import wrong_operators

LIBRARY = {
    "heapq": {"heappush", "heappop", "heapify", "heapreplace", "heappushpop"},
    "math": {"gcd", "lcm", "isqrt", "comb", "perm", "factorial"},
    "itertools": {"chain", "accumulate", "pairwise", "islice", "zip_longest"},
    "collections": {"defaultdict"},
    "__future__": {"annotations"},
}
BUILTINS = set(
    "len range enumerate zip min max sum abs sorted reversed int str bool bytes list tuple dict set isinstance ord repr "
    "any all divmod pow getattr hasattr setattr iter next map super property staticmethod classmethod Exception "
    "ValueError TypeError KeyError IndexError LookupError ZeroDivisionError ArithmeticError OverflowError RuntimeError "
    "NotImplementedError AttributeError StopIteration NotImplemented".split()
)
FORBIDDEN = (ast.Global, ast.AsyncFunctionDef, ast.AsyncFor, ast.AsyncWith, ast.Await, ast.Div, ast.MatMult)
DECORATORS = {"property", "staticmethod", "classmethod"}
UNUSED = {"register", "mro", "elements", "open", "input", "law", "version_info", "with_traceback", "add_note"}
WORDS = {
    "type", "typing", "typing_extensions", "enum", "Enum", "IntEnum", "StrEnum", "Flag", "IntFlag", "Generic",
    "Protocol", "ABC", "ABCMeta", "namedtuple", "NamedTuple", "TypedDict", "TYPE_CHECKING", "abstractmethod",
}
# Methods and attributes of builtin values, and those of these names that a method or an attribute may have (L26).
BUILTIN_NAMES = {name for kind in (str, int, list, dict, set, bytes, tuple) for name in dir(kind) if name[:2] != "__"}
FREE_METHODS = set("add discard append clear copy count endswith extend find get index insert items join keys".split())
FREE_ATTRIBUTES = set("count index title find get join lower upper split strip copy add".split())
# The methods of builtin values that may be called (L25).
CALLED_METHODS = set(
    "append clear copy count endswith extend find get index insert isalnum isalpha isdigit islower isspace isupper items "
    "join keys ljust lower lstrip partition pop remove replace reverse rfind rjust rpartition rsplit rstrip setdefault "
    "split splitlines startswith strip update upper values zfill bit_length removeprefix removesuffix isascii".split()
)
# What makes a number or a string of anything, so that its result has an order of Python's own.
PLAIN_CALLS = {"len", "int", "ord", "str", "repr"}


class Check:
    def __init__(self, package, path):
        self.package = package
        self.path = path
        self.text = path.read_text(encoding="utf-8")
        self.tree = ast.parse(self.text)
        self.found = []

    def wrong(self, line, rule, what):
        self.found.append(f"{self.path}:{line}: {rule}: {what}")

    def lines(self):
        rows = self.text.split("\n")
        if len(rows) > 400:
            self.wrong(len(rows), "L10", "the file has more than 399 lines")
        for number, row in enumerate(rows, start=1):
            if len(row) > 120:
                self.wrong(number, "L10", "the line is longer than 120 characters")
            if any(not " " <= sign <= "~" for sign in row):
                self.wrong(number, "L14", "a character that is none from the blank to ~")

    def imports(self, node):
        if isinstance(node, ast.Import):
            if self.path.name != "__main__.py" or [alias.name for alias in node.names] != ["sys"]:
                self.wrong(node.lineno, "L16", "an import that has not the form from .. import ..")
            return
        names = {alias.name for alias in node.names}
        own = (node.module or "").split(".")[0] == self.package and "*" not in names
        if node.level != 0 or not (own or names <= LIBRARY.get(node.module, set())):
            self.wrong(node.lineno, "L2", f"imports {sorted(names)} from {node.module}")
        if any(alias.asname for alias in node.names):
            self.wrong(node.lineno, "L2", "an import under another name")

    def module_level(self):
        plain = (ast.Import, ast.ImportFrom, ast.FunctionDef, ast.ClassDef, ast.Assign, ast.AnnAssign)
        bound = []
        for place, node in enumerate(self.tree.body):
            docstring = place == 0 and isinstance(node, ast.Expr) and isinstance(node.value, ast.Constant)
            if not isinstance(node, plain) and not docstring and self.path.name != "__main__.py":
                self.wrong(node.lineno, "L3", "a statement that does not stand at module level")
            bound.extend(bound_names(node))
        for name in bound:
            if bound.count(name) > 1:
                self.wrong(1, "L15", f"{name} is bound more than once")
        return set(bound)

    def function(self, node, outer):
        if node.end_lineno - node.lineno + 1 > 40:
            self.wrong(node.lineno, "L10", f"{node.name} has more than 40 lines")
        for decorator in node.decorator_list:
            name = decorator.attr if isinstance(decorator, ast.Attribute) else getattr(decorator, "id", "")
            if name not in DECORATORS and name != "setter":
                self.wrong(node.lineno, "L4", "a decorator")
        told = node.args.posonlyargs + node.args.args + node.args.kwonlyargs
        local = {arg.arg for arg in told} | {
            part.id for part in ast.walk(node) if isinstance(part, ast.Name) and isinstance(part.ctx, ast.Store)
        }
        for name in sorted(local):
            if name in outer or name in dir(__builtins__):
                self.wrong(node.lineno, "L15", f"{name} in {node.name} hides another name")

    def node(self, node):
        if isinstance(node, (ast.Import, ast.ImportFrom)):
            self.imports(node)
        if isinstance(node, FORBIDDEN):
            self.wrong(getattr(node, "lineno", 0), "L6 or L7", type(node).__name__)
        if isinstance(node, ast.Constant) and isinstance(node.value, (float, complex)):
            self.wrong(node.lineno, "L7", "a float")
        if isinstance(node, ast.Constant) and isinstance(node.value, str) and "%" in node.value:
            self.wrong(node.lineno, "L27", "a string with a percent sign")
        if isinstance(node, ast.Name) and node.id in dir(__builtins__) and node.id not in BUILTINS:
            self.wrong(node.lineno, "L8", f"the builtin {node.id}")
        for name in (getattr(node, "id", None), getattr(node, "attr", None), getattr(node, "arg", None)):
            if isinstance(name, str) and name in UNUSED | WORDS:
                self.wrong(node.lineno, "L17", name)
        if isinstance(node, ast.Compare):
            for sign, right in zip(node.ops, node.comparators):
                constant = isinstance(right, ast.Constant) and right.value in (None, True, False)
                if isinstance(sign, (ast.Is, ast.IsNot)) and not constant:
                    self.wrong(node.lineno, "L20", "is beside another value")
        if isinstance(node, ast.ExceptHandler) and node.type is None:
            self.wrong(node.lineno, "L6", "an except without a name")

    def order(self, node):
        """Objects with an order are not sorted or compared by sorted, min and max (L5)."""
        if not isinstance(node.func, ast.Name) or node.func.id not in {"sorted", "min", "max"}:
            return
        keys = {word.value.id for word in node.keywords if word.arg == "key" and isinstance(word.value, ast.Name)}
        if not keys & {"len", "int", "str"} and not any(is_plain(told) for told in node.args):
            self.wrong(node.lineno, "L5", f"{node.func.id} of what may be objects with an order")

    def names(self, node):
        methods = [part for part in node.body if isinstance(part, ast.FunctionDef)]
        for method in methods:
            if method.name in BUILTIN_NAMES - FREE_METHODS:
                self.wrong(method.lineno, "L26", f"a method {method.name}")
            for part in ast.walk(method):
                stored = isinstance(part, ast.Attribute) and isinstance(part.ctx, ast.Store)
                if stored and part.attr in BUILTIN_NAMES - FREE_ATTRIBUTES:
                    self.wrong(part.lineno, "L26", f"an attribute {part.attr}")

    def unused(self):
        used = {part.id for part in ast.walk(self.tree) if isinstance(part, ast.Name)}
        for node in self.tree.body:
            if isinstance(node, ast.ImportFrom) and node.module != "__future__":
                for alias in node.names:
                    if alias.name not in used:
                        self.wrong(node.lineno, "import", f"{alias.name} is not used")

    def all(self):
        self.lines()
        self.unused()
        bound = self.module_level()
        for node in ast.walk(self.tree):
            self.node(node)
            if isinstance(node, ast.Call):
                self.order(node)
            if isinstance(node, ast.ClassDef):
                self.names(node)
            # The package has classes with an equality, so any, all and the like take lists.
            if isinstance(node, ast.GeneratorExp):
                self.wrong(node.lineno, "L7", "a generator expression")
            if isinstance(node, ast.FunctionDef):
                self.function(node, bound)
        return self.found


def wrong_names(trees):
    """Names that are a method and an attribute (L18), and called methods that nothing may have (L25)."""
    methods, attributes, called = set(), {}, {}
    for path, tree in trees:
        for node in ast.walk(tree):
            if isinstance(node, ast.ClassDef):
                methods.update(part.name for part in node.body if isinstance(part, ast.FunctionDef))
            if isinstance(node, ast.Attribute) and isinstance(node.ctx, ast.Store):
                attributes[node.attr] = f"{path}:{node.lineno}"
            if isinstance(node, ast.Call) and isinstance(node.func, ast.Attribute):
                called[node.func.attr] = f"{path}:{node.lineno}"
    found = [f"{attributes[name]}: L18: {name} is a method, too" for name in sorted(methods & set(attributes))]
    found += [
        f"{called[name]}: L25: calls {name}" for name in sorted(called) if name not in methods | CALLED_METHODS
    ]
    return found


def is_plain(node):
    """Whether this is plainly a number or a string, or a list of such."""
    if isinstance(node, ast.Constant):
        return True
    if isinstance(node, ast.ListComp):
        return is_plain(node.elt)
    return isinstance(node, ast.Call) and isinstance(node.func, ast.Name) and node.func.id in PLAIN_CALLS


def bound_names(node):
    if isinstance(node, (ast.FunctionDef, ast.ClassDef)):
        return [node.name]
    if isinstance(node, ast.ImportFrom):
        return [alias.asname or alias.name for alias in node.names]
    if isinstance(node, ast.Assign):
        return [target.id for target in node.targets if isinstance(target, ast.Name)]
    return []


def main():
    folder = pathlib.Path(sys.argv[1])
    found = []
    trees = []
    for path in sorted(folder.rglob("*")):
        if path.is_file() and "__pycache__" not in path.parts:
            if path.suffix == ".py":
                check = Check(folder.name, path)
                trees.append((path, check.tree))
                found.extend(check.all())
            else:
                found.append(f"{path}: L1: the folder contains nothing but .py files")
    found.extend(wrong_names(trees))
    found.extend(wrong_operators(trees))
    for line in found:
        print(line)
    sys.exit(1 if found else 0)


main()
