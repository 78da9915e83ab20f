"""What the operators and the properties of a package run: it changes and calls nothing that it did not create (L5)."""

import ast

# A method of one of these names counts as one that changes what stands ahead of the dot (L5, L25, L26).
CHANGING = set("append clear extend insert pop remove reverse setdefault update sort add discard".split())
HEAPS = set("heappush heappop heapify heapreplace heappushpop".split())
MAKERS = {"list", "dict", "set", "sorted"}
MADE = (ast.List, ast.Dict, ast.Set, ast.ListComp, ast.DictComp, ast.SetComp)
MAY_CHANGE = set("__init__ __call__ __enter__ __exit__ __setitem__".split())
IN_PLACE = set(f"__i{word}__" for word in "add sub mul floordiv mod pow and or xor lshift rshift".split())
VALUES = (str, int, list, dict, set, bytes, tuple)
BUILTIN_METHODS = {name for kind in VALUES for name in dir(kind) if name[:2] != "__"}


class Package:
    """The functions and methods of a package by their names."""

    def __init__(self, trees):
        self.functions = {}
        self.methods = {}
        self.properties = {}
        self.classes = {}
        self.tables = {}
        self.place_of = {}
        for path, tree in trees:
            for node in tree.body:
                self.take(path, node)

    def take(self, path, node):
        if isinstance(node, ast.FunctionDef):
            self.keep(self.functions, path, node)
        if isinstance(node, ast.Assign) and isinstance(node.targets[0], ast.Name):
            named = {part.id for part in ast.walk(node.value) if isinstance(part, ast.Name)}
            self.tables.setdefault(node.targets[0].id, set()).update(named)
        if isinstance(node, ast.ClassDef):
            self.classes.setdefault(node.name, []).append(node)
            for method in node.body:
                if isinstance(method, ast.FunctionDef):
                    is_property = any(getattr(word, "id", "") == "property" for word in method.decorator_list)
                    self.keep(self.properties if is_property else self.methods, path, method)

    def keep(self, table, path, node):
        table.setdefault(node.name, []).append(node)
        self.place_of[node] = path

    def inits_of(self, name):
        """The `__init__` of the classes of this name, and of their bases."""
        found = []
        for node in self.classes.get(name, []):
            found.extend(part for part in node.body if getattr(part, "name", "") == "__init__")
            for base in node.bases:
                found.extend(self.inits_of(getattr(base, "id", "")))
        return found

    def roots(self):
        """The operators and the like, and the properties."""
        found = [node for nodes in self.properties.values() for node in nodes]
        for name, nodes in self.methods.items():
            if name.startswith("__") and name not in MAY_CHANGE | IN_PLACE:
                found.extend(nodes)
        return found

    def called_by(self, node):
        """All that a function may call: by its name, every function and method that has it."""
        found = []
        for part in ast.walk(node):
            if isinstance(part, ast.Name) and isinstance(part.ctx, ast.Load):
                for name in {part.id} | self.tables.get(part.id, set()):
                    found.extend(self.functions.get(name, []))
                    found.extend(self.inits_of(name))
            if isinstance(part, ast.Attribute) and isinstance(part.ctx, ast.Load):
                found.extend(self.methods.get(part.attr, []))
                found.extend(self.properties.get(part.attr, []))
        return found

    def reached(self):
        """Pairs of a function and the operator or property that runs it."""
        found = {}
        waiting = [(node, node) for node in self.roots()]
        while waiting:
            node, root = waiting.pop()
            if node not in found:
                found[node] = root
                waiting.extend((called, root) for called in self.called_by(node))
        return list(found.items())


class Body:
    """The body of a function that an operator or a property runs."""

    def __init__(self, package, node):
        self.package = package
        self.node = node
        told = node.args
        self.parameters = [arg.arg for arg in told.posonlyargs + told.args + told.kwonlyargs]
        self.parameters += [arg.arg for arg in (told.vararg, told.kwarg) if arg is not None]
        self.made = self.made_names()
        self.found = []

    def made_names(self):
        """The local variables that are only ever assigned a new list, dict or set."""
        values, others = {}, set(self.parameters)
        plain = set()
        for part in ast.walk(self.node):
            if isinstance(part, ast.Assign):
                for target in part.targets:
                    if isinstance(target, ast.Name):
                        values.setdefault(target.id, []).append(part.value)
                        plain.add(target)
        for part in ast.walk(self.node):
            if isinstance(part, ast.Name) and isinstance(part.ctx, ast.Store) and part not in plain:
                others.add(part.id)
        return {name for name in values if name not in others and all(is_made(value) for value in values[name])}

    def is_own(self, node):
        return isinstance(node, ast.Name) and node.id in self.made

    def wrong(self, node, what):
        self.found.append((node.lineno, what))

    def check(self):
        for part in ast.walk(self.node):
            if isinstance(part, ast.Call):
                self.call(part)
            for target in targets_of(part):
                self.target(target)
            if isinstance(part, ast.AugAssign) and not isinstance(part.value, ast.Constant):
                self.wrong(part, "adds in place what may be anything")
        return self.found

    def call(self, node):
        called = node.func
        if isinstance(called, ast.Attribute):
            if called.attr in CHANGING and not self.is_own(called.value):
                self.wrong(node, f"calls {called.attr} on what it did not create")
            elif called.attr not in self.package.methods and called.attr not in BUILTIN_METHODS:
                self.wrong(node, f"calls {called.attr}, which it holds")
        elif isinstance(called, ast.Name):
            if called.id in HEAPS and not self.is_own(node.args[0]):
                self.wrong(node, f"calls {called.id} on what it did not create")
            if called.id in self.parameters or called.id in stored_names(self.node):
                self.wrong(node, f"calls {called.id}, which it is passed or holds")
        else:
            self.wrong(node, "calls what is no name and no method")

    def target(self, node):
        if isinstance(node, ast.Attribute):
            is_first = self.node.name == "__init__" and isinstance(node.value, ast.Name)
            if not is_first or node.value.id != self.parameters[0]:
                self.wrong(node, f"assigns the attribute {node.attr}")
        if isinstance(node, ast.Subscript) and not self.is_own(node.value):
            self.wrong(node, "assigns an item of what it did not create")


def is_made(node):
    """Whether this makes a new list, dict or set."""
    if isinstance(node, MADE):
        return True
    if isinstance(node, ast.Subscript):
        return isinstance(node.slice, ast.Slice)
    if isinstance(node, ast.BinOp):
        if isinstance(node.op, ast.Mult):
            return isinstance(node.left, ast.List)
        return isinstance(node.op, ast.Add) and is_made(node.left) and is_made(node.right)
    if isinstance(node, ast.Call):
        return getattr(node.func, "id", "") in MAKERS or getattr(node.func, "attr", "") == "copy"
    return False


def targets_of(node):
    """The attributes and items that a statement assigns or removes, also within tuples."""
    told = []
    if isinstance(node, (ast.Assign, ast.Delete)):
        told = node.targets
    elif isinstance(node, (ast.AugAssign, ast.AnnAssign, ast.For, ast.NamedExpr)):
        told = [node.target]
    return [
        part for target in told for part in ast.walk(target)
        if isinstance(part, (ast.Attribute, ast.Subscript)) and not isinstance(part.ctx, ast.Load)
    ]


def stored_names(node):
    return {part.id for part in ast.walk(node) if isinstance(part, ast.Name) and isinstance(part.ctx, ast.Store)}


def wrong_operators(trees):
    """What is wrong in the package of these pairs (path, tree): a line for each."""
    package = Package(trees)
    found = []
    for node, root in package.reached():
        for line, what in Body(package, node).check():
            place = f"{package.place_of[root]}:{root.lineno} {root.name}"
            found.append(f"{package.place_of[node]}:{line}: L5: {node.name} {what}, and {place} runs it")
    return sorted(found)
