"""Loops that change what they walk: by its name, through another name, or through what holds it.

Told besides are loops that give items to an attribute while they walk an attribute, and `+=` and the like that may get
what they change.
"""

import ast

CHANGING = "append clear extend insert pop remove reverse setdefault update add discard sort".split()
HOLDING = "append insert extend setdefault".split()
TAKING = "extend update".split()
LAZY = "zip enumerate reversed".split()
VIEWS = "items keys values".split()


def root(node):
    """The name, or the attribute, to which an item or a slice belongs."""
    while isinstance(node, ast.Subscript):
        node = node.value
    if isinstance(node, ast.Name):
        return node.id
    return "." + node.attr if isinstance(node, ast.Attribute) else None


def roots(node):
    """All roots of what an expression can be, without a copy."""
    if isinstance(node, (ast.Name, ast.Attribute, ast.Subscript)):
        return [root(node)] if root(node) else []
    if isinstance(node, ast.IfExp):
        return roots(node.body) + roots(node.orelse)
    if isinstance(node, ast.BoolOp):
        return [word for value in node.values for word in roots(value)]
    if isinstance(node, ast.Call) and isinstance(node.func, ast.Name) and node.func.id in LAZY:
        return [word for value in node.args for word in roots(value)]
    if isinstance(node, ast.Call) and isinstance(node.func, ast.Attribute) and node.func.attr in VIEWS:
        return roots(node.func.value)
    return []


def assigned(node):
    """The pairs of a target and a value of an assignment."""
    for target in node.targets:
        if not isinstance(target, ast.Tuple):
            yield target, node.value
        elif isinstance(node.value, ast.Tuple) and len(node.value.elts) == len(target.elts):
            yield from zip(target.elts, node.value.elts)
        else:
            yield from [(part, node.value) for part in target.elts]


def joined(function, holding):
    """Which names can stand for the same list or dict, or for one that holds it: a dict of lots.

    holding are the names of the methods that put a thing into another one.
    """
    lots = {}
    # A thing that is walked by itself, and put somewhere, makes no list another's.
    own = {node.target.id for node in ast.walk(function)
           if isinstance(node, ast.For) and isinstance(node.target, ast.Name)}

    def join(one, other):
        if one in own or other in own:
            return
        lot = lots.setdefault(one, {one}) | lots.setdefault(other, {other})
        for word in lot:
            lots[word] = lot

    for node in ast.walk(function):
        if isinstance(node, ast.Assign):
            for target, value in assigned(node):
                for word in roots(value):
                    if root(target):
                        join(root(target), word)
        elif isinstance(node, ast.Call) and isinstance(node.func, ast.Attribute) and node.func.attr in holding:
            for word in [word for value in node.args for word in roots(value)]:
                if root(node.func.value):
                    join(root(node.func.value), word)
    return lots


def changed_by(node):
    """The root of what a node changes, None if it changes nothing."""
    if isinstance(node, ast.Call) and isinstance(node.func, ast.Attribute) and node.func.attr in CHANGING:
        return root(node.func.value)
    if isinstance(node, ast.Call) and isinstance(node.func, ast.Name) and node.func.id.startswith("heap"):
        return root(node.args[0])
    if isinstance(node, ast.Subscript) and not isinstance(node.ctx, ast.Load):
        return root(node)
    return root(node.target) if isinstance(node, ast.AugAssign) else None


def functions_of(tree):
    return [node for node in ast.walk(tree) if isinstance(node, ast.FunctionDef)]


def loops_of(function):
    """What each loop and comprehension walks, as expressions, and its rows."""
    for node in ast.walk(function):
        if isinstance(node, ast.For):
            yield [node.iter], node.body
        elif isinstance(node, (ast.ListComp, ast.DictComp, ast.SetComp)):
            yield [part.iter for part in node.generators], [node]


def wrong_loops(tree):
    """The rows at which a loop changes what it walks."""
    found = []
    for function in functions_of(tree):
        lots = joined(function, HOLDING)
        for walked, rows in loops_of(function):
            there = {other for value in walked for word in roots(value) for other in lots.get(word, {word})}
            found += [node.lineno for row in rows for node in ast.walk(row) if changed_by(node) in there]
    return sorted(set(found))


def walked_through(node):
    """What is walked by an expression: behind enumerate, zip and the like their arguments."""
    if isinstance(node, ast.Call) and isinstance(node.func, ast.Name) and node.func.id in LAZY:
        return [part for value in node.args for part in walked_through(value)]
    if isinstance(node, ast.Call) and isinstance(node.func, ast.Attribute) and node.func.attr in VIEWS:
        return walked_through(node.func.value)
    return [node]


def is_field(node, names):
    """Whether an expression can be an attribute, or what a method answers, without a copy: by one of these names, too."""
    if isinstance(node, ast.Subscript):
        return not isinstance(node.slice, ast.Slice) and is_field(node.value, names)
    if isinstance(node, ast.IfExp):
        return is_field(node.body, names) or is_field(node.orelse, names)
    if isinstance(node, ast.BoolOp):
        return any(is_field(value, names) for value in node.values)
    if isinstance(node, ast.Call):
        return isinstance(node.func, ast.Attribute)
    return isinstance(node, ast.Attribute) or isinstance(node, ast.Name) and node.id in names


def names_of_fields(function):
    """The local names that are given an attribute, or what a method answers."""
    pairs = [(target.id, value) for node in ast.walk(function) if isinstance(node, ast.Assign)
             for target, value in assigned(node) if isinstance(target, ast.Name)]
    names = set()
    for _ in pairs:
        names |= {name for name, value in pairs if is_field(value, names)}
    return names


def fills_field(node):
    """Whether a node gives an item to an attribute, or takes one away."""
    number = isinstance(node, ast.AugAssign) and isinstance(node.target, ast.Attribute)
    return (changed_by(node) or "").startswith(".") and not number


def method_called(node):
    """The name of the method that a node calls, None if it calls none."""
    return node.func.attr if isinstance(node, ast.Call) and isinstance(node.func, ast.Attribute) else None


def filling_methods(trees):
    """The names of the methods that give items to attributes, by themselves or through methods of the same class."""
    found = set()
    for node in [part for tree in trees for part in ast.walk(tree) if isinstance(part, ast.ClassDef)]:
        inside = {part.name: list(ast.walk(part)) for part in node.body if isinstance(part, ast.FunctionDef)}
        filling = {name for name in inside if any(fills_field(part) for part in inside[name])}
        for _ in inside:
            filling |= {name for name in inside for part in inside[name]
                        if method_called(part) in filling and getattr(part.func.value, "id", None) == "self"}
        found |= filling
    return found - {"__init__"}


def field_loops(tree, filling):
    """The rows at which an attribute gets items in a loop that walks an attribute, or what a method answers.

    In a loop that walks an attribute no method is called, either, whose name is one of those that give items to some.
    """
    found = []
    for function in functions_of(tree):
        names = names_of_fields(function)
        for walked, rows in loops_of(function):
            parts = [part for value in walked for part in walked_through(value)]
            inside = [node for row in rows for node in ast.walk(row)]
            if any(is_field(part, names) for part in parts):
                found += [node.lineno for node in inside if fills_field(node)]
            if any(isinstance(part, ast.Attribute) for part in parts):
                found += [node.lineno for node in inside if method_called(node) in filling]
    return sorted(set(found))


def greedy_rows(tree):
    """The rows at which `+=` gets more than a literal, or extend and update may get what they change."""
    found = [node.lineno for node in ast.walk(tree)
             if isinstance(node, ast.AugAssign) and not isinstance(node.value, ast.Constant)]
    for function in functions_of(tree):
        # What is joined by extend and update alone is copied item by item.
        lots = joined(function, [word for word in HOLDING if word not in TAKING])
        for node in [part for part in ast.walk(function) if method_called(part) in TAKING]:
            mine = root(node.func.value)
            taken = {word for value in node.args for part in ast.walk(value) for word in roots(part)}
            if taken & lots.get(mine, {mine}):
                found.append(node.lineno)
    return sorted(set(found))
