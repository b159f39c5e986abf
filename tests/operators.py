"""Operators and properties: what they change, and what they call, also through what they call."""

import ast
import builtins

from loops import CHANGING, functions_of, method_called, root

OPERATORS = """__lt__ __le__ __gt__ __ge__ __ne__ __add__ __sub__ __mul__ __and__ __or__ __xor__ __bool__ __contains__
__getitem__ __eq__ __str__ __repr__ __len__""".split()
MAKING = "list dict set sorted".split()


def is_getter(node):
    """Whether a function is what runs when a property is read."""
    return any(isinstance(word, ast.Name) and word.id == "property" for word in node.decorator_list)


def is_new(node):
    """Whether an expression makes a new list or dict."""
    if isinstance(node, ast.Call):
        return isinstance(node.func, ast.Name) and node.func.id in MAKING
    if isinstance(node, ast.Subscript):
        return isinstance(node.slice, ast.Slice)
    if isinstance(node, ast.BinOp):
        return is_new(node.left) or is_new(node.right)
    return isinstance(node, (ast.List, ast.Dict, ast.ListComp, ast.DictComp))


def made_in(function):
    """The local names that a function gives nothing but new lists and dicts."""
    params = {arg.arg for arg in ast.walk(function.args) if isinstance(arg, ast.arg)}
    targets = {}
    for node in ast.walk(function):
        if isinstance(node, ast.Assign):
            for target in node.targets:
                targets[id(target)] = node.value
    made = {}
    for node in ast.walk(function):
        if isinstance(node, ast.Name) and isinstance(node.ctx, ast.Store):
            made[node.id] = made.get(node.id, True) and id(node) in targets and is_new(targets[id(node)])
    return {name for name in made if made[name]} - params


class Reach:
    """What operators reach of some files, which are told by their names. Functions are triples of a file, a class, a node."""

    def __init__(self, trees):
        self.scopes = {}
        for name, tree in trees.items():
            self.scopes[name] = {node.name: (name, node) for node in tree.body
                                 if isinstance(node, (ast.FunctionDef, ast.ClassDef))}
        for name, tree in trees.items():
            for node in [part for part in tree.body if isinstance(part, ast.ImportFrom)]:
                theirs = self.scopes.get(node.module.rpartition(".")[2] + ".py", {})
                self.scopes[name].update({alias.name: theirs[alias.name] for alias in node.names if alias.name in theirs})
        self.classes = [(name, node) for name, tree in trees.items() for node in tree.body if isinstance(node, ast.ClassDef)]

    def methods(self, node):
        """The methods of a class, by name, without what runs when a property is assigned."""
        return {part.name: part for part in node.body if isinstance(part, ast.FunctionDef)
                and not any(isinstance(word, ast.Attribute) for word in part.decorator_list)}

    def operators(self):
        """All operators, and all that runs when a property is read."""
        return [(name, node, part) for name, node in self.classes for part in self.methods(node).values()
                if part.name in OPERATORS or is_getter(part)]

    def made_by(self, name, node):
        """What runs when an object of a class is made: its __init__, or the first one above it."""
        if "__init__" in self.methods(node):
            return [(name, node, self.methods(node)["__init__"])]
        bases = [self.scopes[name][base.id] for base in node.bases if base.id in self.scopes[name]]
        return [found for base in bases[:1] for found in self.made_by(*base)]

    def ahead(self, name, node, call):
        """What a call in a file, perhaps in a class, runs; None if it calls what is passed or held."""
        if isinstance(call.func, ast.Name):
            told = call.func.id
            if told not in self.scopes[name]:
                return [] if told in vars(builtins) else None
            home, part = self.scopes[name][told]
            return self.made_by(home, part) if isinstance(part, ast.ClassDef) else [(home, None, part)]
        told = call.func.attr
        if told == "__init__":
            bases = [self.scopes[name][base.id] for base in node.bases if base.id in self.scopes[name]]
            return [found for base in bases for found in self.made_by(*base)]
        if node is not None and getattr(call.func.value, "id", None) == "self" and told in self.methods(node):
            return [(name, node, self.methods(node)[told])]
        # Off anything else it can be a method of any class.
        behind = [(home, other, self.methods(other)[told]) for home, other in self.classes if told in self.methods(other)]
        known = any(hasattr(kind, told) for kind in (str, dict, list))
        return behind if behind or known else None

    def wrong_in(self, function):
        """The rows of a function at which it changes what it did not make, or makes a function."""
        made = made_in(function)
        found = []
        for node in ast.walk(function):
            if isinstance(node, ast.Attribute) and isinstance(node.ctx, ast.Store):
                # A new object gives itself its attributes.
                if function.name != "__init__" or getattr(node.value, "id", None) != "self":
                    found.append(node.lineno)
            elif isinstance(node, ast.Subscript) and not isinstance(node.ctx, ast.Load):
                found += [] if isinstance(node.value, ast.Name) and node.value.id in made else [node.lineno]
            elif method_called(node) in CHANGING:
                found += [] if isinstance(node.func.value, ast.Name) and root(node.func.value) in made else [node.lineno]
            elif isinstance(node, ast.AugAssign):
                plain = isinstance(node.target, ast.Name) and isinstance(node.value, ast.Constant)
                found += [] if plain else [node.lineno]
            elif isinstance(node, (ast.Lambda, ast.Yield, ast.YieldFrom, ast.GeneratorExp, ast.Global, ast.Nonlocal)):
                found.append(node.lineno)
        inner = [part for part in functions_of(function) if part is not function]
        return found + [part.lineno for part in inner]

    def wrong(self):
        """What is not as it should be: the class and the name of an operator, the function, and its rows."""
        found = []
        for start in self.operators():
            waiting = [start]
            seen = []
            while waiting:
                name, node, function = waiting.pop()
                if function in seen:
                    continue
                seen.append(function)
                rows = self.wrong_in(function)
                for call in [part for part in ast.walk(function) if isinstance(part, ast.Call)]:
                    behind = self.ahead(name, node, call)
                    if behind is None:
                        rows.append(call.lineno)
                    waiting += behind or []
                if rows:
                    found.append((start[1].name, start[2].name, function.name, sorted(set(rows))))
        return found
