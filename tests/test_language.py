"""The package's own files keep to the small part of Python that the program is written in (rules L1 to L28)."""

import ast
import builtins
import pathlib
import re
import unittest

PACKAGE = pathlib.Path(__file__).resolve().parent.parent / "evernever"
FILES = sorted(PACKAGE.glob("*.py"))

STATEMENTS = (
    ast.Assign, ast.AugAssign, ast.If, ast.While, ast.For, ast.Return, ast.Break, ast.Continue, ast.Pass,
    ast.Raise, ast.Try, ast.Expr, ast.FunctionDef, ast.ClassDef, ast.ImportFrom,
)
EXPRESSIONS = (
    ast.Constant, ast.List, ast.Tuple, ast.Dict, ast.Set, ast.BinOp, ast.UnaryOp, ast.Compare, ast.BoolOp, ast.IfExp,
    ast.Call, ast.Attribute, ast.Subscript, ast.Slice, ast.ListComp, ast.JoinedStr, ast.FormattedValue, ast.Name,
    ast.Lambda,
)
ERRORS = {
    "Exception", "ValueError", "TypeError", "KeyError", "IndexError", "LookupError", "ZeroDivisionError",
    "ArithmeticError", "OverflowError", "RuntimeError", "NotImplementedError", "AttributeError", "StopIteration",
}
KNOWN = ERRORS | {
    "len", "range", "enumerate", "zip", "min", "max", "sum", "abs", "sorted", "reversed", "int", "str", "bool", "list",
    "tuple", "dict", "set", "frozenset", "isinstance", "ord", "repr", "any", "all", "divmod",
}
METHODS = set(
    "append clear copy count endswith extend find get index insert isalnum isalpha isdigit islower isspace isupper "
    "items join keys ljust lower lstrip partition pop remove replace reverse rfind rjust rpartition rsplit rstrip "
    "setdefault split splitlines startswith strip update upper values zfill bit_length".split()
)
CHANGES = set("append clear extend insert pop remove reverse setdefault update".split())
UNUSED = set("register mro elements open input version_info with_traceback add_note format format_map".split())
UNWRITTEN = re.compile(
    r"\b(type|typing|typing_extensions|enum|Enum|IntEnum|StrEnum|Flag|IntFlag|Generic|Protocol|ABC|ABCMeta|namedtuple"
    r"|NamedTuple|TypedDict|TYPE_CHECKING|abstractmethod)\b|dataclass|overload|contextmanager"
)
WALKED = {"zip", "enumerate", "reversed", "range"}
WALKERS = {"list", "tuple", "dict", "sorted", "sum", "any", "all", "enumerate", "zip", "min", "max"}
KEYWORDS = {"sorted": {"key", "reverse"}, "min": {"key", "default"}, "max": {"key", "default"}, "sum": {"start"},
            "enumerate": {"start"}, "zip": {"strict"}}
PYTHONS_OWN = set().union(*[dir(kind) for kind in (str, int, list, dict, set, bytes)])
FREE_VALUES = set("count index title find get join lower upper split strip copy add".split())


def at(path, node):
    return f"{path.name}:{node.lineno}"


def tree_of(path):
    return ast.parse(path.read_text(encoding="ascii"))


def classes(tree):
    return [node for node in tree.body if isinstance(node, ast.ClassDef)]


def functions(tree):
    return [node for node in ast.walk(tree) if isinstance(node, ast.FunctionDef)]


def values_of(tree):
    return {node.attr for node in ast.walk(tree) if isinstance(node, ast.Attribute) and isinstance(node.ctx, ast.Store)}


def methods_of(tree):
    return {item.name for node in classes(tree) for item in node.body if isinstance(item, ast.FunctionDef)}


def imports_of(tree):
    return [(node.module, name.name) for node in tree.body if isinstance(node, ast.ImportFrom) for name in node.names]


def top_names(tree):
    names = [name for module, name in imports_of(tree)]
    for node in tree.body:
        if isinstance(node, (ast.FunctionDef, ast.ClassDef)):
            names.append(node.name)
        elif isinstance(node, ast.Assign):
            names.append(node.targets[0].id)
    return names


def locals_of(function):
    names = {argument.arg for argument in function.args.args}
    return names | {node.id for node in ast.walk(function)
                    if isinstance(node, ast.Name) and isinstance(node.ctx, ast.Store)}


class Rules(unittest.TestCase):
    def each(self):
        self.assertGreater(len(FILES), 1)
        return [(path, tree_of(path)) for path in FILES]

    def test_files(self):
        there = sorted(path.name for path in PACKAGE.iterdir() if path.name != "__pycache__")
        self.assertEqual(there, [path.name for path in FILES])
        self.assertIn("__init__.py", there)
        for name in there:
            self.assertRegex(name, r"\A[a-z_][a-z0-9_]*\.py\Z")
            self.assertNotIn(name[:-3], dir(builtins))

    def test_signs_and_sizes(self):
        for path, tree in self.each():
            text = path.read_text(encoding="ascii")
            self.assertRegex(text, r"\A[\n -~]*\Z")
            self.assertNotRegex(text, UNWRITTEN)
            rows = text.split("\n")
            self.assertLessEqual(len(rows), 400)
            self.assertLessEqual(max(len(row) for row in rows), 120)
            for function in functions(tree):
                self.assertLessEqual(function.end_lineno - function.lineno + 1, 40, at(path, function))

    def test_imports(self):
        trees = {path.stem: tree_of(path) for path in FILES}
        drawn = {}
        for path, tree in self.each():
            for module, name in imports_of(tree):
                package, own = module.split(".")
                self.assertEqual(package, "evernever")
                defined = [node.name for node in trees[own].body if isinstance(node, (ast.FunctionDef, ast.ClassDef))]
                self.assertIn(name, defined)
            drawn[path.stem] = {module.split(".")[1] for module, name in imports_of(tree)}
        while drawn:
            free = [own for own, others in drawn.items() if not others & set(drawn)]
            self.assertNotEqual(free, [], drawn)
            for own in free:
                drawn.pop(own)

    def test_imported_names_are_used(self):
        for path, tree in self.each():
            used = {node.id for node in ast.walk(tree) if isinstance(node, ast.Name)}
            for module, name in imports_of(tree):
                self.assertIn(name, used)

    def test_the_top_of_a_module(self):
        for path, tree in self.each():
            self.assertIsNotNone(ast.get_docstring(tree))
            for node in tree.body[1:]:
                self.assertIsInstance(node, (ast.ImportFrom, ast.FunctionDef, ast.ClassDef, ast.Assign))
                if isinstance(node, ast.Assign):
                    self.assertIsInstance(node.value, (ast.Constant, ast.Tuple))
            names = top_names(tree)
            self.assertEqual(len(names), len(set(names)))

    def test_statements_and_expressions(self):
        for path, tree in self.each():
            for node in ast.walk(tree):
                if isinstance(node, ast.stmt):
                    self.assertIsInstance(node, STATEMENTS, at(path, node))
                if isinstance(node, ast.expr):
                    self.assertIsInstance(node, EXPRESSIONS, at(path, node))
                if isinstance(node, ast.Expr) and node is not tree.body[0]:
                    self.assertIsInstance(node.value, ast.Call, at(path, node))
                if isinstance(node, ast.Constant):
                    self.assertIn(type(node.value), (int, str, bool, type(None)), at(path, node))
                if isinstance(node, ast.Assign):
                    self.assertEqual(len(node.targets), 1)
                    self.assertIsInstance(node.targets[0], (ast.Name, ast.Attribute, ast.Subscript), at(path, node))
                if isinstance(node, (ast.For, ast.While)):
                    self.assertEqual(node.orelse, [], at(path, node))
                if isinstance(node, ast.Try):
                    self.assertEqual(node.finalbody, [], at(path, node))
                if isinstance(node, ast.ListComp):
                    self.assertEqual(len(node.generators), 1, at(path, node))
                    self.assertLessEqual(len(node.generators[0].ifs), 1, at(path, node))
                if isinstance(node, ast.BinOp):
                    self.assertNotIsInstance(node.op, (ast.Div, ast.MatMult, ast.Pow), at(path, node))
                if isinstance(node, ast.FormattedValue):
                    self.assertIsInstance(node.value, ast.Name, at(path, node))
                    self.assertIsNone(node.format_spec, at(path, node))
                if isinstance(node, ast.Compare):
                    for op, other in zip(node.ops, node.comparators):
                        if isinstance(op, (ast.Is, ast.IsNot)):
                            self.assertIsInstance(other, ast.Constant, at(path, node))

    def test_defs_and_classes(self):
        for path, tree in self.each():
            for function in functions(tree):
                arguments = function.args
                self.assertEqual((arguments.vararg, arguments.kwarg, arguments.kwonlyargs, arguments.posonlyargs),
                                 (None, None, [], []), at(path, function))
                self.assertEqual((function.decorator_list, function.returns), ([], None), at(path, function))
            for node in classes(tree):
                self.assertLessEqual(len(node.bases), 1)
                self.assertEqual((node.decorator_list, node.keywords), ([], []))
                for item in node.body:
                    self.assertIsInstance(item, (ast.FunctionDef, ast.Pass))
                names = [item.name for item in node.body if isinstance(item, ast.FunctionDef)]
                self.assertEqual(len(names), len(set(names)), node.name)

    def test_names(self):
        for path, tree in self.each():
            tops = top_names(tree)
            for node in ast.walk(tree):
                if isinstance(node, ast.Name):
                    self.assertRegex(node.id, r"\A[A-Za-z][A-Za-z0-9_]*\Z")
                    if node.id in dir(builtins):
                        self.assertIn(node.id, KNOWN, at(path, node))
            for function in functions(tree):
                if function.name != "__init__":
                    self.assertRegex(function.name, r"\A[a-z][a-z0-9_]*\Z")
                for name in locals_of(function):
                    self.assertNotIn(name, tops, at(path, function))
                    self.assertNotIn(name, dir(builtins), at(path, function))

    def test_methods_and_values(self):
        methods, values = set(), set()
        for path, tree in self.each():
            methods |= methods_of(tree)
            values |= values_of(tree)
        self.assertEqual(methods & values, set())
        self.assertEqual(methods & PYTHONS_OWN - {"__init__"}, set())
        self.assertEqual(values & (PYTHONS_OWN - FREE_VALUES | UNUSED | {"args"}), set())
        for path, tree in self.each():
            called = {id(node.func) for node in ast.walk(tree) if isinstance(node, ast.Call)}
            for node in ast.walk(tree):
                if isinstance(node, ast.Attribute) and id(node) in called:
                    self.assertIn(node.attr, methods | METHODS, at(path, node))
                elif isinstance(node, ast.Attribute):
                    self.assertIn(node.attr, values, at(path, node))

    def test_classes_are_called_or_asked_for_alone(self):
        known = {node.name for path in FILES for node in classes(tree_of(path))} | ERRORS
        for path, tree in self.each():
            good = {id(node.func) for node in ast.walk(tree) if isinstance(node, ast.Call)}
            good |= {id(base) for node in classes(tree) for base in node.bases}
            good |= {id(node.type) for node in ast.walk(tree) if isinstance(node, ast.ExceptHandler)}
            for node in ast.walk(tree):
                if isinstance(node, ast.Name) and node.id in known:
                    self.assertIn(id(node), good, at(path, node))
                if isinstance(node, ast.Raise):
                    self.assertIsInstance(node.exc, ast.Call, at(path, node))

    def test_pythons_own_are_called(self):
        for path, tree in self.each():
            calls = [node for node in ast.walk(tree) if isinstance(node, ast.Call)]
            called = {id(node.func) for node in calls}
            asked = {id(node.args[1]) for node in calls
                     if isinstance(node.func, ast.Name) and node.func.id == "isinstance"}
            bases = {id(base) for node in classes(tree) for base in node.bases}
            for node in ast.walk(tree):
                if isinstance(node, ast.Name) and node.id in KNOWN:
                    self.assertIn(id(node), called | asked | bases, at(path, node))
            for node in calls:
                name = node.func.id if isinstance(node.func, ast.Name) else ""
                for keyword in node.keywords:
                    self.assertIn(keyword.arg, KEYWORDS.get(name, set()), at(path, node))

    def test_walked_on_the_spot(self):
        for path, tree in self.each():
            good = set()
            for node in ast.walk(tree):
                if isinstance(node, (ast.For, ast.comprehension)):
                    good.add(id(node.iter))
                if isinstance(node, ast.Call) and isinstance(node.func, ast.Name) and node.func.id in WALKERS:
                    good.add(id(node.args[0]))
            for node in ast.walk(tree):
                if isinstance(node, ast.Call):
                    name = node.func.id if isinstance(node.func, ast.Name) else node.func.attr
                    if name in WALKED | {"items", "keys", "values"}:
                        self.assertIn(id(node), good, at(path, node))

    def test_what_a_loop_walks_is_not_changed_in_it(self):
        for path, tree in self.each():
            for loop in [node for node in ast.walk(tree) if isinstance(node, ast.For)]:
                walked = {ast.unparse(node) for node in ast.walk(loop.iter)
                          if isinstance(node, (ast.Name, ast.Attribute))}
                for node in ast.walk(loop):
                    if isinstance(node, ast.Call) and isinstance(node.func, ast.Attribute):
                        if node.func.attr in CHANGES:
                            self.assertNotIn(ast.unparse(node.func.value), walked, at(path, node))
                    if isinstance(node, ast.Subscript) and isinstance(node.ctx, ast.Store):
                        self.assertNotIn(ast.unparse(node.value), walked, at(path, node))

    def test_sets_stand_within_sorted_len_or_in(self):
        for path, tree in self.each():
            good = set()
            for node in ast.walk(tree):
                if isinstance(node, ast.Call) and isinstance(node.func, ast.Name) and node.func.id in ("sorted", "len"):
                    good.add(id(node.args[0]))
                if isinstance(node, ast.Compare):
                    good |= {id(other) for other in [node.left] + node.comparators}
            for node in ast.walk(tree):
                if isinstance(node, ast.Set):
                    self.assertIn(id(node), good, at(path, node))
                if isinstance(node, ast.Call) and isinstance(node.func, ast.Name):
                    if node.func.id in ("set", "frozenset"):
                        self.assertIn(id(node), good, at(path, node))

    def test_texts(self):
        for path, tree in self.each():
            for node in ast.walk(tree):
                if isinstance(node, ast.Constant) and isinstance(node.value, str):
                    self.assertNotIn("%", node.value, at(path, node))


if __name__ == "__main__":
    unittest.main()
