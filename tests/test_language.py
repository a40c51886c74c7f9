"""The package's files keep to the part of Python that the program is written in, as far as a walk of them can see."""

import ast
import builtins
import pathlib
import re
import unittest

PACKAGE = pathlib.Path(__file__).resolve().parent.parent / "passersby"

OWN_NAMES = set("""len range enumerate zip min max sum abs sorted reversed int str bool list tuple dict set frozenset
isinstance ord repr any all divmod Exception ValueError TypeError KeyError IndexError LookupError ZeroDivisionError
ArithmeticError OverflowError RuntimeError NotImplementedError AttributeError StopIteration""".split())

METHODS = set("""append clear copy count endswith extend find get index insert isalnum isalpha isdigit islower isspace
isupper items join keys ljust lower lstrip partition pop remove replace reverse rfind rjust rpartition rsplit rstrip
setdefault split splitlines startswith strip update upper values zfill bit_length""".split())

SPECIAL = {"__init__", "__eq__", "__repr__", "__str__", "__len__"}

WORDS_NOWHERE = """type typing typing_extensions enum Enum IntEnum StrEnum Flag IntFlag Generic Protocol ABC ABCMeta
namedtuple NamedTuple TypedDict TYPE_CHECKING abstractmethod""".split()

NAMES_NOWHERE = set("""register mro elements open input version_info with_traceback add_note attrgetter breakpoint
builtins compile copyright credits delattr dir eval exec exit gc getattr globals hasattr help id importlib license
locals methodcaller os quit setattr super vars sys format format_map chr""".split())

STATEMENTS = (ast.Assign, ast.AugAssign, ast.If, ast.While, ast.For, ast.Return, ast.Break, ast.Continue, ast.Pass,
              ast.Raise, ast.Try, ast.Expr, ast.FunctionDef, ast.ClassDef, ast.ImportFrom)

EXPRESSIONS = (ast.Constant, ast.List, ast.Tuple, ast.Dict, ast.Set, ast.BinOp, ast.UnaryOp, ast.BoolOp, ast.Compare,
               ast.IfExp, ast.Call, ast.Attribute, ast.Subscript, ast.Slice, ast.ListComp, ast.JoinedStr,
               ast.FormattedValue, ast.Name, ast.Lambda)

ON_THE_SPOT = {"zip", "enumerate", "reversed", "range"}
CHANGES = set("append clear extend insert pop remove reverse setdefault update".split())
VIEWS = {"items", "keys", "values"}
WALKERS = {"list", "tuple", "dict", "sorted", "sum", "any", "all", "enumerate", "zip", "min", "max"}
KEYWORDS = {"sorted": {"key", "reverse"}, "min": {"key", "default"}, "max": {"key", "default"}, "sum": {"start"},
            "enumerate": {"start"}, "zip": {"strict"}}


def files():
    return sorted(PACKAGE.rglob("*.py"))


def bound_names(tree):
    """Every name that a file gives a meaning to."""
    names = []
    for node in ast.walk(tree):
        if isinstance(node, (ast.FunctionDef, ast.ClassDef)):
            names.append(node.name)
        elif isinstance(node, ast.arg):
            names.append(node.arg)
        elif isinstance(node, ast.Name) and isinstance(node.ctx, ast.Store):
            names.append(node.id)
    return names


def called(node):
    """The plain name that is called, or None."""
    return node.func.id if isinstance(node, ast.Call) and isinstance(node.func, ast.Name) else None


class Language(unittest.TestCase):
    def each(self):
        for path in files():
            yield path, ast.parse(path.read_text(encoding="ascii"))

    def nodes(self, *kinds):
        for path, tree in self.each():
            for node in ast.walk(tree):
                if isinstance(node, kinds):
                    yield f"{path.name}:{node.lineno}", node

    def test_files(self):
        self.assertIn(PACKAGE / "__init__.py", files())
        for path in PACKAGE.rglob("*"):
            if "__pycache__" in path.parts:
                continue
            self.assertTrue(path.is_file() and re.fullmatch(r"[a-z0-9_]+\.py", path.name), path)
            self.assertTrue(path.stem == "__init__" or not hasattr(builtins, path.stem), path)
            self.assertNotRegex(path.stem, r"^(tests?|testing|test_.*|site|conftest|sitecustomize|usercustomize)$")

    def test_sizes_and_signs(self):
        for path in files():
            text = path.read_text(encoding="ascii")
            self.assertTrue(all(sign == "\n" or " " <= sign <= "~" for sign in text), path)
            rows = text.split("\n")
            self.assertLessEqual(len(rows), 400, path)
            self.assertLessEqual(max(len(row) for row in rows), 120, path)
            for word in WORDS_NOWHERE:
                self.assertIsNone(re.search(rf"\b{word}\b", text), (path, word))
            self.assertIsNone(re.search("dataclass|overload|contextmanager", text), path)

    def test_functions(self):
        for place, node in self.nodes(ast.FunctionDef):
            self.assertLessEqual(node.end_lineno - node.lineno + 1, 40, place)
            self.assertEqual(node.decorator_list, [], place)
            given = node.args
            self.assertFalse(given.vararg or given.kwarg or given.kwonlyargs or given.posonlyargs, place)
            self.assertTrue(all(isinstance(value, ast.Constant) for value in given.defaults), place)
            self.assertTrue(node.returns is None and all(arg.annotation is None for arg in given.args), place)

    def test_statements_and_expressions(self):
        for place, node in self.nodes(ast.stmt):
            self.assertIsInstance(node, STATEMENTS, place)
            if isinstance(node, (ast.For, ast.While)):
                self.assertEqual(node.orelse, [], place)
            if isinstance(node, ast.Assign):
                self.assertEqual(len(node.targets), 1, place)
                self.assertNotIsInstance(node.targets[0], (ast.Tuple, ast.List), place)
            if isinstance(node, ast.Try):
                self.assertEqual(node.finalbody, [], place)
        for place, node in self.nodes(ast.expr):
            self.assertIsInstance(node, EXPRESSIONS, place)
            if isinstance(node, ast.ListComp):
                self.assertEqual(len(node.generators), 1, place)
                self.assertLessEqual(len(node.generators[0].ifs), 1, place)
            if isinstance(node, ast.Constant):
                self.assertNotIsInstance(node.value, (float, complex, bytes), place)
                if isinstance(node.value, str):
                    self.assertNotIn("%", node.value, place)
            if isinstance(node, ast.BinOp):
                self.assertNotIsInstance(node.op, (ast.Div, ast.MatMult), place)
                if isinstance(node.op, ast.Pow):
                    self.assertIsInstance(node.right, ast.Constant, place)
            if isinstance(node, ast.FormattedValue):
                self.assertIsInstance(node.value, ast.Name, place)

    def test_tops(self):
        for path, tree in self.each():
            body = tree.body
            self.assertIsNotNone(ast.get_docstring(tree), path)
            names = []
            for node in body[1:]:
                self.assertIsInstance(node, (ast.ImportFrom, ast.FunctionDef, ast.ClassDef, ast.Assign), path)
                if isinstance(node, ast.ImportFrom):
                    names.extend(alias.name for alias in node.names)
                elif isinstance(node, ast.Assign):
                    names.append(node.targets[0].id)
                    plain = (ast.Constant, ast.Tuple, ast.List, ast.Dict, ast.expr_context)
                    self.assertTrue(all(isinstance(part, plain) for part in ast.walk(node.value)), path)
                else:
                    names.append(node.name)
            self.assertEqual(len(names), len(set(names)), path)

    def test_imports(self):
        draws = {}
        for path, tree in self.each():
            draws[path.stem] = set()
            inner = [node for node in ast.walk(tree) if isinstance(node, ast.ImportFrom)]
            self.assertTrue(all(node in tree.body for node in inner), path)
            for node in inner:
                self.assertEqual(node.level, 0, path)
                package, module = node.module.split(".")
                self.assertEqual(package, "passersby")
                source = ast.parse((PACKAGE / (module + ".py")).read_text())
                for alias in node.names:
                    self.assertIsNone(alias.asname, path)
                    self.assertIn(alias.name, bound_names(source), path)
                draws[path.stem].add(module)
        while draws:
            free = [name for name, drawn in draws.items() if not drawn & set(draws)]
            self.assertTrue(free, draws)
            for name in free:
                del draws[name]

    def test_imports_are_used(self):
        for path, tree in self.each():
            used = {node.id for node in ast.walk(tree) if isinstance(node, ast.Name)}
            for node in tree.body:
                if isinstance(node, ast.ImportFrom):
                    self.assertLessEqual({alias.name for alias in node.names}, used, path)

    def test_names(self):
        for path, tree in self.each():
            bound = bound_names(tree)
            drawn = [alias.name for node in tree.body if isinstance(node, ast.ImportFrom) for alias in node.names]
            for name in set(bound) - SPECIAL:
                self.assertRegex(name, r"^[A-Za-z][A-Za-z0-9_]*$", path)
                self.assertNotIn(name, NAMES_NOWHERE, path)
                self.assertFalse(hasattr(builtins, name), (path, name))
                self.assertNotIn(name, drawn, path)
            for node in tree.body:
                if isinstance(node, ast.ClassDef):
                    self.assertEqual(bound.count(node.name), 1, path)
            for node in ast.walk(tree):
                if isinstance(node, ast.Name) and isinstance(node.ctx, ast.Load):
                    self.assertIn(node.id, OWN_NAMES | set(bound) | set(drawn), path)

    def test_classes(self):
        methods, kept = set(), set()
        for place, node in self.nodes(ast.ClassDef):
            self.assertEqual((node.decorator_list, node.keywords), ([], []), place)
            self.assertLessEqual(len(node.bases), 1, place)
            self.assertTrue(all(isinstance(part, (ast.FunctionDef, ast.Expr)) for part in node.body), place)
            own = [part.name for part in node.body if isinstance(part, ast.FunctionDef)]
            self.assertEqual(len(own), len(set(own)), place)
            methods.update(own)
            for part in ast.walk(node):
                if isinstance(part, ast.Attribute) and isinstance(part.ctx, ast.Store):
                    kept.add(part.attr)
        self.assertEqual(methods & kept, set())
        pythons = set(dir(str) + dir(int) + dir(list) + dir(dict) + dir(set) + dir(bytes))
        self.assertEqual((methods | kept) & pythons - SPECIAL, set())

    def test_attributes(self):
        own = {node.name for place, node in self.nodes(ast.FunctionDef)}
        for place, node in self.nodes(ast.Call):
            if isinstance(node.func, ast.Attribute):
                self.assertIn(node.func.attr, METHODS | own, place)
        for place, node in self.nodes(ast.Attribute):
            self.assertNotIn(node.attr, NAMES_NOWHERE, place)

    def test_errors_taken_and_raised(self):
        for place, node in self.nodes(ast.Raise):
            self.assertIsInstance(node.exc, ast.Call, place)
        for place, node in self.nodes(ast.ExceptHandler):
            self.assertIsInstance(node.type, ast.Name, place)
            self.assertNotIn(node.type.id, ("Exception", "TypeError", "ValueError", "LookupError"), place)

    def test_is(self):
        for place, node in self.nodes(ast.Compare):
            for operator, right in zip(node.ops, node.comparators):
                if isinstance(operator, (ast.Is, ast.IsNot)):
                    self.assertTrue(isinstance(right, ast.Constant) and right.value in (None, True, False), place)

    def test_keywords(self):
        for place, node in self.nodes(ast.Call):
            for keyword in node.keywords:
                if called(node) in OWN_NAMES or not isinstance(node.func, ast.Name):
                    self.assertIn(keyword.arg, KEYWORDS.get(called(node), ()), place)
            self.assertNotIn(ast.Starred, [type(arg) for arg in node.args], place)

    def test_walked_on_the_spot(self):
        for path, tree in self.each():
            spots = set()
            for node in ast.walk(tree):
                if isinstance(node, (ast.For, ast.comprehension)):
                    spots.add(id(node.iter))
                elif called(node) in WALKERS and node.args:
                    spots.add(id(node.args[0]))
            for node in ast.walk(tree):
                viewed = isinstance(node, ast.Call) and isinstance(node.func, ast.Attribute) and node.func.attr in VIEWS
                if viewed or called(node) in ON_THE_SPOT:
                    self.assertIn(id(node), spots, f"{path.name}:{node.lineno}")
                self.assertNotIn(called(node), ("set", "frozenset"), path)

    def test_what_is_walked_is_not_changed(self):
        for place, loop in self.nodes(ast.For):
            walked = {node.id for node in ast.walk(loop.iter) if isinstance(node, ast.Name)}
            for node in [part for row in loop.body for part in ast.walk(row)]:
                changed = None
                if isinstance(node, ast.Call) and isinstance(node.func, ast.Attribute) and node.func.attr in CHANGES:
                    changed = node.func.value
                elif isinstance(node, ast.Subscript) and isinstance(node.ctx, ast.Store):
                    changed = node.value
                if isinstance(changed, ast.Name):
                    self.assertNotIn(changed.id, walked, place)

    def test_the_first_method(self):
        for place, node in self.nodes(ast.FunctionDef):
            if node.name == "__init__":
                self.assertFalse([part for part in ast.walk(node) if isinstance(part, ast.Return)], place)


if __name__ == "__main__":
    unittest.main()
