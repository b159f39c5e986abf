"""Loops that change what they walk: by its name, through another name, or through what holds it."""

import ast

CHANGING = "append clear extend insert pop remove reverse setdefault update add discard sort".split()
HOLDING = "append insert extend setdefault".split()
LAZY = "zip enumerate reversed".split()
VIEWS = "items keys values".split()


def root(node):
    """The name, or the attribute, to which an item or a slice belongs."""
    while isinstance(node, ast.Subscript):
        node = node.value
    if isinstance(node, ast.Name):
        return node.id
    return "." + node.attr if isinstance(node, ast.Attribute) else None


def roots(node):
    """All roots of what an expression can be, without a copy."""
    if isinstance(node, (ast.Name, ast.Attribute, ast.Subscript)):
        return [root(node)] if root(node) else []
    if isinstance(node, ast.IfExp):
        return roots(node.body) + roots(node.orelse)
    if isinstance(node, ast.BoolOp):
        return [word for value in node.values for word in roots(value)]
    if isinstance(node, ast.Call) and isinstance(node.func, ast.Name) and node.func.id in LAZY:
        return [word for value in node.args for word in roots(value)]
    if isinstance(node, ast.Call) and isinstance(node.func, ast.Attribute) and node.func.attr in VIEWS:
        return roots(node.func.value)
    return []


def assigned(node):
    """The pairs of a target and a value of an assignment."""
    for target in node.targets:
        if not isinstance(target, ast.Tuple):
            yield target, node.value
        elif isinstance(node.value, ast.Tuple) and len(node.value.elts) == len(target.elts):
            yield from zip(target.elts, node.value.elts)
        else:
            yield from [(part, node.value) for part in target.elts]


def joined(function):
    """Which names can stand for the same list or dict, or for one that holds it: a dict of lots."""
    lots = {}
    # A thing that is walked by itself, and put somewhere, makes no list another's.
    own = {node.target.id for node in ast.walk(function)
           if isinstance(node, ast.For) and isinstance(node.target, ast.Name)}

    def join(one, other):
        if one in own or other in own:
            return
        lot = lots.setdefault(one, {one}) | lots.setdefault(other, {other})
        for word in lot:
            lots[word] = lot

    for node in ast.walk(function):
        if isinstance(node, ast.Assign):
            for target, value in assigned(node):
                for word in roots(value):
                    if root(target):
                        join(root(target), word)
        elif isinstance(node, ast.Call) and isinstance(node.func, ast.Attribute) and node.func.attr in HOLDING:
            for word in [word for value in node.args for word in roots(value)]:
                if root(node.func.value):
                    join(root(node.func.value), word)
    return lots


def changed_by(node):
    """The root of what a node changes, None if it changes nothing."""
    if isinstance(node, ast.Call) and isinstance(node.func, ast.Attribute) and node.func.attr in CHANGING:
        return root(node.func.value)
    if isinstance(node, ast.Call) and isinstance(node.func, ast.Name) and node.func.id.startswith("heap"):
        return root(node.args[0])
    if isinstance(node, ast.Subscript) and not isinstance(node.ctx, ast.Load):
        return root(node)
    return root(node.target) if isinstance(node, ast.AugAssign) else None


def loops_of(function):
    """What each loop and comprehension walks, and its rows."""
    for node in ast.walk(function):
        if isinstance(node, ast.For):
            yield roots(node.iter), node.body
        elif isinstance(node, (ast.ListComp, ast.DictComp, ast.SetComp)):
            yield [word for part in node.generators for word in roots(part.iter)], [node]


def wrong_loops(tree):
    """The rows at which a loop changes what it walks."""
    found = []
    for function in [node for node in ast.walk(tree) if isinstance(node, ast.FunctionDef)]:
        lots = joined(function)
        for walked, rows in loops_of(function):
            there = {other for word in walked for other in lots.get(word, {word})}
            found += [node.lineno for row in rows for node in ast.walk(row) if changed_by(node) in there]
    return sorted(set(found))
