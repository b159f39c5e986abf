"""The package keeps to its subset of Python: what of that can be seen from the code, rule by rule."""

import ast
import builtins
import io
import os
import re
import tokenize
import unittest

from loops import field_loops, filling_methods, greedy_rows, wrong_loops
from operators import Reach

FOLDER = os.path.join(os.path.dirname(os.path.abspath(__file__)), "..", "keptacross")

BUILTINS = """len range enumerate zip min max sum abs sorted reversed int str bool bytes list tuple dict set frozenset
isinstance ord repr any all divmod pow iter next super property classmethod staticmethod Exception ValueError TypeError
KeyError IndexError LookupError ZeroDivisionError ArithmeticError OverflowError RuntimeError NotImplementedError
AttributeError StopIteration NotImplemented""".split()
METHODS = """append clear copy count endswith extend find get index insert isalnum isalpha isdigit islower isspace isupper
items join keys ljust lower lstrip partition pop remove replace reverse rfind rjust rpartition rsplit rstrip setdefault
split splitlines startswith strip update upper values zfill bit_length isascii removeprefix removesuffix""".split()
SPECIAL = """__init__ __eq__ __repr__ __str__ __len__ __enter__ __exit__ __call__ __iter__ __lt__ __le__ __gt__ __ge__
__ne__ __add__ __sub__ __mul__ __and__ __or__ __xor__ __bool__ __contains__ __getitem__ __setitem__""".split()
BARRED = """register mro elements open input law version_info with_traceback add_note attrgetter breakpoint builtins
compile copyright credits delattr dir eval exec exit gc getattr globals hasattr help id importlib license locals
methodcaller os quit setattr type vars sys typing enum Enum Generic Protocol ABC namedtuple dataclass overload
contextmanager abstractmethod metaclass Meta""".split()
AT_ONCE = "list tuple dict sorted sum any all min max enumerate zip".split()
OWN_ATTRIBUTES = "count index title find get join lower upper split strip copy add".split()
VALUES_OWN = {name for kind in (str, int, list, dict, set, bytes, tuple) for name in dir(kind) if name[:1] != "_"}


def files():
    return sorted(name for name in os.listdir(FOLDER) if name != "__pycache__")


def source(name):
    with open(os.path.join(FOLDER, name), encoding="utf-8") as stream:
        return stream.read()


TREES = {name: ast.parse(source(name)) for name in files() if name.endswith(".py")}
NODES = [(name, node) for name, tree in TREES.items() for node in ast.walk(tree)]
FUNCTIONS = (ast.FunctionDef, ast.Lambda)


def parents(tree):
    return {child: node for node in ast.walk(tree) for child in ast.iter_child_nodes(node)}


PARENTS = {name: parents(tree) for name, tree in TREES.items()}
OWN_CLASSES = {node.name for _, node in NODES if isinstance(node, ast.ClassDef)}
OWN_METHODS = {part.name for _, node in NODES if isinstance(node, ast.ClassDef)
               for part in node.body if isinstance(part, ast.FunctionDef)}
STORED = {node.attr for _, node in NODES if isinstance(node, ast.Attribute) and isinstance(node.ctx, ast.Store)}


def decorated(word):
    return {node.name for _, node in NODES if isinstance(node, ast.FunctionDef)
            for name in node.decorator_list if isinstance(name, ast.Name) and name.id == word}


SETTERS = {node.name for _, node in NODES if isinstance(node, ast.FunctionDef)
           for word in node.decorator_list if isinstance(word, ast.Attribute)}


def bound_at_module_level(tree):
    found = []
    for node in tree.body:
        if isinstance(node, ast.ImportFrom):
            found += [alias.name for alias in node.names]
        elif isinstance(node, (ast.FunctionDef, ast.ClassDef)):
            found.append(node.name)
        elif isinstance(node, ast.Assign):
            found += [target.id for target in node.targets]
    return found


def called(node):
    """The bare name that a call calls, None if there is none."""
    return node.func.id if isinstance(node, ast.Call) and isinstance(node.func, ast.Name) else None


class Form(unittest.TestCase):
    def bar(self, rule, found):
        self.assertEqual([(name, getattr(node, "lineno", 0)) for name, node in found], [], rule)

    def test_files(self):
        for name in files():
            self.assertRegex(name, r"^[a-z0-9_]+\.py$")
            self.assertNotIn(name[:-3], vars(builtins))
            text = source(name)
            self.assertRegex(text, r"^[ -~\n]*$", name)
            lines = text.split("\n")
            self.assertLessEqual(len(lines), 400, name)
            self.assertLessEqual(max(len(line) for line in lines), 120, name)
        self.assertLessEqual(len(files()), 100)
        self.assertIn("__init__.py", files())

    def test_size_of_functions(self):
        self.bar("L10", [(name, node) for name, node in NODES if isinstance(node, ast.FunctionDef)
                         and node.end_lineno - node.lineno >= 40])

    def test_imports(self):
        for name, tree in TREES.items():
            seen_other = False
            for node in tree.body:
                if isinstance(node, ast.ImportFrom):
                    self.assertFalse(seen_other, name)
                    self.assertEqual(node.level, 0)
                    if node.module == "math":
                        self.assertEqual([(alias.name, alias.asname) for alias in node.names], [("gcd", None)])
                        continue
                    self.assertRegex(node.module, r"^keptacross\.[a-z]+$")
                    theirs = TREES[node.module.partition(".")[2] + ".py"]
                    own = [part.name for part in theirs.body if isinstance(part, (ast.FunctionDef, ast.ClassDef))]
                    own += [part.targets[0].id for part in theirs.body if isinstance(part, ast.Assign)]
                    for alias in node.names:
                        self.assertIsNone(alias.asname)
                        self.assertIn(alias.name, own, name)
                elif not (isinstance(node, ast.Expr) and node is tree.body[0]):
                    seen_other = True
        self.bar("L2", [(name, node) for name, node in NODES if isinstance(node, ast.Import)])
        self.bar("L2", [(name, node) for name, node in NODES if isinstance(node, ast.ImportFrom)
                        and node not in TREES[name].body])

    def test_imports_are_used_and_go_one_way(self):
        ahead = {}
        for name, tree in TREES.items():
            read = {node.id for node in ast.walk(tree) if isinstance(node, ast.Name)}
            ahead[name] = set()
            for node in tree.body:
                if isinstance(node, ast.ImportFrom):
                    self.assertLessEqual({alias.name for alias in node.names}, read, name)
                if isinstance(node, ast.ImportFrom) and node.module != "math":
                    ahead[name].add(node.module.partition(".")[2] + ".py")
        while ahead:
            free = [name for name, others in ahead.items() if not others & set(ahead)]
            self.assertNotEqual(free, [], ahead)
            for name in free:
                del ahead[name]

    def test_module_level(self):
        for name, tree in TREES.items():
            for node in tree.body:
                if isinstance(node, ast.Expr):
                    self.assertIs(node, tree.body[0])
                    self.assertIsInstance(node.value.value, str)
                elif isinstance(node, ast.Assign):
                    self.assertEqual(len(node.targets), 1)
                    self.assertIsInstance(node.targets[0], ast.Name)
                    plain = (ast.Constant, ast.Tuple, ast.Dict, ast.Name, ast.Load, ast.UnaryOp, ast.USub)
                    self.assertTrue(all(isinstance(part, plain) for part in ast.walk(node.value)), name)
                else:
                    self.assertIsInstance(node, (ast.ImportFrom, ast.FunctionDef, ast.ClassDef), name)
            bound = bound_at_module_level(tree)
            self.assertEqual(len(bound), len(set(bound)), name)
        for node in TREES["__init__.py"].body:
            self.assertIsInstance(node, ast.Expr)

    def test_kinds_of_statements(self):
        kinds = (ast.AsyncFunctionDef, ast.AsyncFor, ast.AsyncWith, ast.Await, ast.Global, ast.Nonlocal, ast.Import,
                 ast.GeneratorExp, ast.SetComp, ast.Set, ast.Div, ast.MatMult, ast.Pow, ast.Match,
                 ast.Delete, ast.AnnAssign, ast.NamedExpr, ast.YieldFrom)
        self.bar("L6, L7", [(name, node) for name, node in NODES if isinstance(node, kinds)])
        self.bar("L7", [(name, node) for name, node in NODES if isinstance(node, ast.Constant)
                        and isinstance(node.value, (float, complex, bytes))])

    def test_generators(self):
        yielding = [(name, node) for name, node in NODES if isinstance(node, ast.Yield)]
        self.bar("L23", [(name, node) for name, node in yielding if not isinstance(PARENTS[name][node], ast.Expr)])
        for name, node in yielding:
            while not isinstance(node, FUNCTIONS):
                node = PARENTS[name][node]
                self.assertNotIsInstance(node, (ast.Try, ast.With), name)
            self.assertNotIn(node.name, VALUES_OWN)
            self.assertNotIn(node.name, SPECIAL)
            self.assertEqual(node.decorator_list, [])
            self.assertEqual([part.value for part in ast.walk(node) if isinstance(part, ast.Return) and part.value], [])
            named = [other for _, other in NODES if isinstance(other, ast.FunctionDef) and other.name == node.name]
            self.assertEqual(len(named), 1)
            # Nothing in the package goes through it: callers do.
            self.assertEqual([part for _, part in NODES if isinstance(part, ast.Attribute) and part.attr == node.name], [])

    def test_functions_and_classes(self):
        for name, node in NODES:
            if isinstance(node, ast.FunctionDef):
                holder = PARENTS[name][node]
                self.assertIsInstance(holder, (ast.Module, ast.ClassDef, ast.FunctionDef), node.name)
                for word in node.decorator_list:
                    if isinstance(word, ast.Attribute):
                        self.assertEqual((word.attr, word.value.id), ("setter", node.name))
                        self.assertIn(node.name, decorated("property"))
                    else:
                        self.assertIn(word.id, ("property", "classmethod"))
                    self.assertIsInstance(holder, ast.ClassDef)
                if node.name.startswith("__"):
                    self.assertIn(node.name, SPECIAL)
                    self.assertIsInstance(holder, ast.ClassDef)
                self.assertFalse(any(arg.annotation for arg in node.args.args))
                self.assertIsNone(node.returns)
                for value in node.args.defaults + node.args.kw_defaults:
                    self.assertIsInstance(value, (ast.Constant, ast.Tuple, ast.Name, type(None)))
            if isinstance(node, ast.ClassDef):
                self.assertIn(node, TREES[name].body)
                self.assertEqual(node.decorator_list, [])
                methods = [part.name for part in node.body if isinstance(part, ast.FunctionDef)
                           and not any(isinstance(word, ast.Attribute) for word in part.decorator_list)]
                self.assertEqual(len(methods), len(set(methods)))
                if "__getitem__" in methods:
                    self.assertIn("__iter__", methods)

    def test_contexts(self):
        for name, node in NODES:
            if isinstance(node, ast.With):
                self.assertTrue(all(called(item.context_expr) == "Trial" for item in node.items))
            if isinstance(node, ast.FunctionDef) and node.name == "__exit__":
                for row in node.body:
                    self.assertIsInstance(row, ast.Assign)
                    self.assertIsInstance(row.value, ast.Attribute)
                    self.assertIsInstance(row.targets[0], (ast.Name, ast.Attribute))
                told = [arg.arg for arg in node.args.args[1:]]
                read = [part.id for part in ast.walk(node) if isinstance(part, ast.Name)]
                self.assertEqual([word for word in told if word in read], [])

    def test_special_methods(self):
        for name, node in NODES:
            if isinstance(node, ast.FunctionDef) and node.name in ("__init__", "__len__", "__iter__"):
                returns = [part.value for part in ast.walk(node) if isinstance(part, ast.Return)]
                barred = isinstance(node.body[-1], ast.Raise) and called(node.body[-1].exc) == "TypeError"
                if node.name == "__init__" or node.name == "__iter__" and barred:
                    self.assertEqual(returns, [])
                else:
                    self.assertEqual([called(value) for value in returns], ["len" if node.name == "__len__" else "iter"])

    def test_operators_change_nothing_and_call_nothing_that_they_are_handed(self):
        reach = Reach(TREES)
        self.assertGreater(len(reach.operators()), 60)
        self.assertEqual(reach.wrong(), [])
        for text in ("return good(self)", "return self.good(other)", "return [good(part) for part in self.parts]",
                     "return asked(other, lambda part: part)", "return Box(other)", "box = Lid(other)\n        box.parts = ()",
                     "self.parts = other", "self.parts[0] = other", "self.parts.append(other)", "other.clear()",
                     "parts = self.parts\n        parts.pop()", "parts = []\n        parts = other\n        parts.pop()",
                     "return filled(other)", "total = 0\n        total += other", "return self.later()",
                     "self.parts += 1", "del self.parts[0]", "return other.later()"):
            self.assertNotEqual(self.box(text).wrong(), [], text)
        for text in ("return Lid(other)", "parts = []\n        parts.append(other)", "total = 0\n        total += 1",
                     "parts = list(other)\n        parts[0] = self", "return found(self.parts)", "return self.soon()",
                     "return tuple(sorted(other))", "return self.parts.index(other)", "raise Gone(other)"):
            self.assertEqual(self.box(text).wrong(), [], text)

    def box(self, text):
        """What operators reach where one of a class has these rows, and another one may be called by it."""
        rows = f"""
class Gone(ValueError):
    def __init__(self, part):
        super().__init__(part)
        self.part = part

def asked(parts, good):
    return good(parts)

def filled(parts):
    parts.append(1)

def found(parts):
    return [part for part in parts if found(part)]

class Box:
    def __init__(self, parts):
        self.parts = asked(parts, bool)

    def later(self):
        self.parts = ()

    def soon(self):
        return self.parts

    def __add__(self, other):
        {text}

class Lid(Box):
    def __init__(self, parts):
        self.parts = parts
"""
        return Reach({"box.py": ast.parse(rows)})

    def test_builtins(self):
        found = []
        for name, node in NODES:
            if isinstance(node, ast.Name) and node.id in vars(builtins):
                if node.id not in BUILTINS or isinstance(node.ctx, ast.Store):
                    found.append((name, node))
            if isinstance(node, ast.arg) and node.arg in vars(builtins):
                found.append((name, node))
            if isinstance(node, (ast.FunctionDef, ast.ClassDef)) and node.name in vars(builtins):
                found.append((name, node))
        self.bar("L8, L15", found)

    def test_names(self):
        found = []
        for name, node in NODES:
            bound = [getattr(node, word, None) for word in ("id", "arg", "name", "attr")]
            for word in bound:
                if not isinstance(word, str) or word in SPECIAL:
                    continue
                if not re.fullmatch(r"_|_?[A-Za-z][A-Za-z0-9_]*", word) or (word in BARRED):
                    found.append((name, node))
                if re.match(r"_wall|_pe_|_dcw_|_enum_|_cm_|_twin_re_|_lay_|_law_|_stub_|_sre|_cold|_outside|_record", word):
                    found.append((name, node))
            if isinstance(node, ast.Name) and node.id == "_" and isinstance(node.ctx, ast.Load):
                found.append((name, node))
        self.bar("L12, L17", found)

    def test_no_other_meaning_for_imports_and_classes(self):
        found = []
        for name, tree in TREES.items():
            fixed = {alias.name for node in tree.body if isinstance(node, ast.ImportFrom) for alias in node.names}
            fixed |= {node.name for node in tree.body if isinstance(node, ast.ClassDef)}
            for node in ast.walk(tree):
                if isinstance(node, ast.arg) and node.arg in fixed:
                    found.append((name, node))
                if isinstance(node, ast.Name) and isinstance(node.ctx, ast.Store) and node.id in fixed:
                    found.append((name, node))
        self.bar("L15", found)

    def test_words_and_strings(self):
        for name in TREES:
            docs = {id(node.body[0].value) for node in ast.walk(TREES[name])
                    if isinstance(node, (ast.Module, ast.ClassDef, ast.FunctionDef)) and node.body
                    and isinstance(node.body[0], ast.Expr)}
            for node in ast.walk(TREES[name]):
                if isinstance(node, ast.Constant) and isinstance(node.value, str) and id(node) not in docs:
                    for word in re.findall(r"\w+", node.value):
                        self.assertNotIn(word, ("type", "typing", "enum", "dataclass", "overload"))
                    self.assertNotIn("%", node.value)
                    self.assertFalse(node.value.endswith("._"))
            for token in tokenize.generate_tokens(io.StringIO(source(name)).readline):
                if token.type == tokenize.STRING:
                    self.assertNotRegex(token.string.replace("\\\\", ""), r"\\[^nt\"']")

    def test_is(self):
        self.bar("L20", [(name, node) for name, node in NODES if isinstance(node, ast.Compare)
                         and any(isinstance(sign, (ast.Is, ast.IsNot)) for sign in node.ops)
                         and not isinstance(node.comparators[-1], ast.Constant)])

    def test_iterated_at_once(self):
        found = []
        for name, node in NODES:
            lazy = called(node) in ("zip", "enumerate", "reversed", "range")
            view = (isinstance(node, ast.Call) and isinstance(node.func, ast.Attribute)
                    and node.func.attr in ("items", "keys", "values"))
            if lazy or view:
                holder = PARENTS[name][node]
                loop = isinstance(holder, (ast.For, ast.comprehension)) and holder.iter is node
                if not loop and not (called(holder) in AT_ONCE and holder.args[0] is node):
                    found.append((name, node))
        self.bar("L23", found)

    def test_no_loop_changes_what_it_walks(self):
        for name, tree in TREES.items():
            self.assertEqual(wrong_loops(tree), [], name)
        for text in ("for x in xs:\n        xs.append(x)", "for k, x in enumerate(xs):\n        xs[k] = x",
                     "ys = {}\n    for x in xs:\n        ys.update(x)\n    xs = ys", "zs = [xs]\n    ys = xs\n"
                     "    for x in ys:\n        xs.pop()", "for x in xs[-1]:\n        ys[0] = x\n    xs.append(ys)"):
            self.assertNotEqual(wrong_loops(ast.parse("def f(xs, ys):\n    " + text)), [], text)
        for text in ("for x in list(xs):\n        xs.append(x)", "for x in xs:\n        ys.append(x)"):
            self.assertEqual(wrong_loops(ast.parse("def f(xs, ys):\n    " + text)), [], text)

    def test_no_loop_gives_items_to_an_attribute_while_it_walks_one(self):
        filling = filling_methods(TREES.values())
        for name, tree in TREES.items():
            self.assertEqual(field_loops(tree, filling), [], name)
        ways = "class Box:\n    def fill(self, x):\n        self.ys.append(x)\n    def pour(self, x):\n        self.fill(x)\n"
        for text in ("for x in self.xs:\n            self.ys[x] = x", "for k, x in enumerate(self.xs):\n            self.ys[k] = x",
                     "for x in xs.follow(1):\n            self.ys[x] = x", "xs = self.xs\n        for x in xs:\n            self.ys.append(x)",
                     "for x in self.xs:\n            for y in list(x):\n                self.ys.setdefault(x, y)",
                     "for x in self.xs:\n            self.fill(x)", "for x in zip(self.xs, xs):\n            self.pour(x)",
                     "for x in self.xs[1]:\n            self.ys.update(x)", "for x in self.xs.items():\n            del self.ys[x]",
                     "return [self.pour(x) for x in self.xs]"):
            tree = ast.parse(f"{ways}    def walk(self, xs):\n        {text}")
            self.assertNotEqual(field_loops(tree, filling_methods([tree])), [], text)
        for text in ("for x in list(self.xs):\n            self.ys[x] = x", "ys = {}\n        for x in self.xs:\n            ys[x] = x",
                     "for x in xs:\n            self.fill(x)", "xs = [self.xs]\n        for x in xs:\n            self.ys[x] = x",
                     "for x in self.xs:\n            self.y = x"):
            tree = ast.parse(f"{ways}    def walk(self, xs):\n        {text}")
            self.assertEqual(field_loops(tree, filling_methods([tree])), [], text)

    def test_nothing_is_given_what_it_changes(self):
        for name, tree in TREES.items():
            self.assertEqual(greedy_rows(tree), [], name)
        for text in ("xs[0] += xs[1]", "x = xs[1]\n    xs[0] += x", "xs.extend(xs)", "xs.update({x: 1 for x in xs})",
                     "ys = xs\n    xs.extend(ys)", "ys.append(xs)\n    ys.extend(xs)", "xs |= ys"):
            self.assertNotEqual(greedy_rows(ast.parse("def f(xs, ys):\n    " + text)), [], text)
        for text in ("xs[0] += 1", "xs[0] = xs[0] + xs[1]", "xs.extend(ys)", "xs.update({y: 1 for y in ys})"):
            self.assertEqual(greedy_rows(ast.parse("def f(xs, ys):\n    " + text)), [], text)

    def test_sets(self):
        found = []
        for name, node in NODES:
            if called(node) == "set" and called(PARENTS[name][node]) not in ("len", "sorted"):
                found.append((name, node))
        self.bar("L24", found)

    def test_methods_that_are_called(self):
        self.bar("L25", [(name, node) for name, node in NODES if isinstance(node, ast.Call)
                         and isinstance(node.func, ast.Attribute)
                         and node.func.attr not in METHODS and node.func.attr not in OWN_METHODS])

    def test_own_methods_and_attributes(self):
        self.assertEqual({word for word in OWN_METHODS if word in VALUES_OWN}, set())
        self.assertEqual({word for word in STORED if word in VALUES_OWN} - set(OWN_ATTRIBUTES), set())
        self.assertEqual(decorated("property") & STORED - SETTERS, set())
        self.assertEqual(decorated("classmethod") & STORED, set())
        plain = OWN_METHODS - decorated("property") - decorated("classmethod")
        self.assertEqual(plain & STORED, set())
        self.assertEqual(plain & decorated("property"), set())
        read = {node.attr for name, node in NODES if isinstance(node, ast.Attribute) and isinstance(node.ctx, ast.Load)
                and not (isinstance(PARENTS[name][node], ast.Call) and PARENTS[name][node].func is node)}
        values = {part.targets[0].id for _, node in NODES if isinstance(node, ast.ClassDef)
                  for part in node.body if isinstance(part, ast.Assign)}
        kept_as_values = {word for word in plain if not word.startswith("__") and word not in METHODS}
        self.assertEqual(read - STORED - decorated("property") - values - kept_as_values - {"setter"}, set())

    def test_classes_are_not_values(self):
        found = []
        for name, node in NODES:
            if isinstance(node, ast.Name) and node.id in OWN_CLASSES and isinstance(node.ctx, ast.Load):
                holder = PARENTS[name][node]
                call = isinstance(holder, ast.Call) and (holder.func is node or called(holder) == "isinstance")
                pair = isinstance(holder, ast.Tuple) and isinstance(PARENTS[name][holder], ast.ExceptHandler)
                if not call and not pair and not isinstance(holder, (ast.ClassDef, ast.ExceptHandler)):
                    found.append((name, node))
        self.bar("L18", found)

    def test_errors(self):
        found = []
        for name, node in NODES:
            if isinstance(node, ast.Raise) and node.exc is not None and called(node.exc) is None:
                found.append((name, node))
            if isinstance(node, ast.ExceptHandler):
                kinds = node.type.elts if isinstance(node.type, ast.Tuple) else [node.type]
                if not all(isinstance(kind, ast.Name) and kind.id in OWN_CLASSES for kind in kinds):
                    found.append((name, node))
        self.bar("L19", found)

    def test_keywords(self):
        allowed = {"sorted": {"key", "reverse"}, "min": {"key", "default"}, "max": {"key", "default"},
                   "sum": {"start"}, "enumerate": {"start"}, "zip": {"strict"}}
        self.bar("L22", [(name, node) for name, node in NODES if called(node) in vars(builtins)
                         and {word.arg for word in node.keywords} - allowed.get(called(node), set())])
        self.bar("L22", [(name, node) for name, node in NODES if isinstance(node, ast.Call)
                         and isinstance(node.func, ast.Attribute) and node.func.attr in METHODS and node.keywords])

    def test_stars_in_calls(self):
        found = []
        for name, node in NODES:
            if isinstance(node, ast.Call):
                for arg in node.args:
                    if isinstance(arg, ast.Starred) and not isinstance(arg.value, (ast.Name, ast.Attribute)):
                        found.append((name, arg))
        self.bar("L7", found)


if __name__ == "__main__":
    unittest.main()
