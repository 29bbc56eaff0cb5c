"""Holds the package's files to the rules of LANGUAGE.md that can be seen in a file."""

import ast
import builtins
import pathlib
import re
import unittest

FOLDER = pathlib.Path(__file__).resolve().parent.parent / "recordbooks"
FILES = sorted(path for path in FOLDER.iterdir() if path.name != "__pycache__")
STATEMENTS = (ast.Assign, ast.AugAssign, ast.If, ast.While, ast.For, ast.Return, ast.Break, ast.Continue, ast.Pass,
              ast.Raise, ast.Try, ast.Expr, ast.FunctionDef, ast.ClassDef, ast.ImportFrom)
EXPRESSIONS = (ast.Constant, ast.JoinedStr, ast.FormattedValue, ast.List, ast.Tuple, ast.Dict, ast.BinOp, ast.UnaryOp,
               ast.BoolOp, ast.Compare, ast.IfExp, ast.Call, ast.Attribute, ast.Subscript, ast.Slice, ast.ListComp,
               ast.Name, ast.Lambda)
OWN_OF_PYTHON = """len range enumerate zip min max sum abs sorted reversed int str bool list tuple dict isinstance ord
    repr any all divmod Exception ValueError KeyError IndexError LookupError ZeroDivisionError""".split()
METHODS = """append clear copy count endswith extend find get index insert isalnum isalpha isdigit islower isspace
    isupper items join keys ljust lower lstrip partition pop remove replace reverse rfind rjust rpartition rsplit
    rstrip setdefault split splitlines startswith strip update upper values zfill bit_length""".split()
WALKED = ("zip", "enumerate", "reversed", "range", "items", "keys", "values")
WALKERS = ("list", "tuple", "dict", "sorted", "sum", "any", "all", "enumerate", "zip", "min", "max")
BANNED_NAMES = "register mro elements open input version_info with_traceback add_note format format_map".split()
BANNED_WORDS = """type typing typing_extensions enum Enum IntEnum StrEnum Flag IntFlag Generic Protocol ABC ABCMeta
    namedtuple NamedTuple TypedDict TYPE_CHECKING abstractmethod""".split()
TAKEN_VALUES = """items keys values pop update append clear extend insert remove reverse setdefault sort args encode
    format""".split()
CHANGES = "append clear extend insert pop remove reverse setdefault update".split()


def tree_of(path):
    return ast.parse(path.read_text(encoding="utf-8"))


def nodes(tree, *kinds):
    return [node for node in ast.walk(tree) if isinstance(node, kinds)]


def defs_of(tree):
    return nodes(tree, ast.FunctionDef)


def parameters(node):
    return [one.arg for one in node.args.args]


def stored_names(tree):
    return [node.id for node in nodes(tree, ast.Name) if isinstance(node.ctx, ast.Store)]


def top_names(tree):
    names = []
    for node in tree.body:
        if isinstance(node, (ast.FunctionDef, ast.ClassDef)):
            names.append(node.name)
        elif isinstance(node, ast.Assign):
            names.append(node.targets[0].id)
    return names


def imported_names(tree):
    return [alias.name for node in nodes(tree, ast.ImportFrom) for alias in node.names]


def called_name(node):
    if not isinstance(node, ast.Call):
        return None
    return getattr(node.func, "id", getattr(node.func, "attr", None))


def methods_and_values():
    methods = []
    values = []
    for path in FILES:
        for kind in nodes(tree_of(path), ast.ClassDef):
            methods.extend([node.name for node in kind.body if isinstance(node, ast.FunctionDef)])
        for node in nodes(tree_of(path), ast.Attribute):
            if isinstance(node.ctx, ast.Store):
                values.append(node.attr)
    return methods, values


class Language(unittest.TestCase):
    def on_each(self, check):
        for path in FILES:
            with self.subTest(file=path.name):
                check(tree_of(path))

    def test_files(self):
        self.assertIn("__init__.py", [path.name for path in FILES])
        for path in FILES:
            self.assertRegex(path.name, r"^(__init__|[a-z][a-z0-9_]*)\.py$")
            self.assertNotIn(path.stem, dir(builtins) + BANNED_WORDS + ["test", "tests", "testing", "site", "conftest"])
            text = path.read_bytes()
            self.assertEqual([sign for sign in text if sign != 10 and not 32 <= sign <= 126], [])
            lines = text.split(b"\n")
            self.assertLessEqual(len(lines), 401)
            self.assertLessEqual(max([len(line) for line in lines]), 120)

    def test_words(self):
        for path in FILES:
            text = path.read_text(encoding="utf-8")
            self.assertEqual([word for word in re.findall(r"\w+", text) if word in BANNED_WORDS], [])
            self.assertIsNone(re.search("dataclass|overload|contextmanager", text))

    def test_imports(self):
        drawn = {}
        for path in FILES:
            tree = tree_of(path)
            drawn[path.stem] = []
            for node in nodes(tree, ast.Import, ast.ImportFrom):
                self.assertIsInstance(node, ast.ImportFrom)
                self.assertIn(node, tree.body)
                self.assertEqual(node.module.split(".")[0], "recordbooks")
                name = node.module.split(".")[1]
                drawn[path.stem].append(name)
                for alias in node.names:
                    self.assertIsNone(alias.asname)
                    self.assertIn(alias.name, top_names(tree_of(FOLDER / (name + ".py"))))
        self.assertEqual(drawn["__init__"], [])
        while drawn:
            free = [name for name in drawn if not any(other in drawn for other in drawn[name])]
            self.assertNotEqual(free, [], "files that draw from one another")
            for name in free:
                drawn.pop(name)

    def check_top(self, tree):
        self.assertIsInstance(ast.get_docstring(tree), str)
        for node in tree.body[1:]:
            self.assertIsInstance(node, (ast.ImportFrom, ast.FunctionDef, ast.ClassDef, ast.Assign))
            if isinstance(node, ast.Assign):
                self.assertEqual(nodes(node.value, ast.Call, ast.ListComp, ast.Lambda), [])
                self.assertLessEqual(len(nodes(node.value, ast.List, ast.Dict)), 1)
        names = top_names(tree) + imported_names(tree)
        self.assertEqual(len(names), len(set(names)))

    def test_top(self):
        self.on_each(self.check_top)

    def check_defs(self, tree):
        for node in defs_of(tree):
            told = node.args
            self.assertEqual((told.vararg, told.kwarg, told.kwonlyargs, told.posonlyargs), (None, None, [], []))
            self.assertEqual((node.decorator_list, node.returns), ([], None))
            self.assertEqual([one for one in told.args if one.annotation is not None], [])
            self.assertLessEqual(node.end_lineno - node.lineno + 1, 40)

    def test_defs(self):
        self.on_each(self.check_defs)

    def check_classes(self, tree):
        for node in nodes(tree, ast.ClassDef):
            self.assertIn(node, tree.body)
            self.assertLessEqual(len(node.bases), 1)
            self.assertEqual((node.decorator_list, node.keywords), ([], []))
            self.assertEqual([one for one in node.body if not isinstance(one, ast.FunctionDef)], [])

    def test_classes(self):
        self.on_each(self.check_classes)

    def check_statements(self, tree):
        docstring = tree.body[0]
        for node in nodes(tree, ast.stmt):
            self.assertIsInstance(node, STATEMENTS)
            if isinstance(node, ast.Expr) and node is not docstring:
                self.assertIsInstance(node.value, ast.Call)
            if isinstance(node, ast.Assign):
                self.assertEqual(len(node.targets), 1)
                self.assertNotIsInstance(node.targets[0], (ast.Tuple, ast.List))
            if isinstance(node, (ast.For, ast.While)):
                self.assertEqual(node.orelse, [])
            if isinstance(node, ast.Try):
                self.assertEqual(node.finalbody, [])
                self.assertEqual([one.type.id for one in node.handlers], ["Refusal"])

    def test_statements(self):
        self.on_each(self.check_statements)

    def check_expressions(self, tree):
        for node in nodes(tree, ast.expr):
            self.assertIsInstance(node, EXPRESSIONS)
            if isinstance(node, ast.Constant):
                self.assertIsInstance(node.value, (int, str, type(None)))
                self.assertNotIn("%", str(node.value))
            if isinstance(node, ast.ListComp):
                self.assertEqual(len(node.generators), 1)
                self.assertLessEqual(len(node.generators[0].ifs), 1)
            if isinstance(node, ast.FormattedValue):
                self.assertIsInstance(node.value, ast.Name)
                self.assertIsNone(node.format_spec)
            if isinstance(node, ast.Compare) and isinstance(node.ops[0], (ast.Is, ast.IsNot)):
                self.assertIn(node.comparators[0].value, (None, True, False))
        self.assertEqual(nodes(tree, ast.Div, ast.Pow, ast.MatMult), [])

    def test_expressions(self):
        self.on_each(self.check_expressions)

    def check_names(self, tree):
        known = top_names(tree) + imported_names(tree) + stored_names(tree) + OWN_OF_PYTHON
        for node in nodes(tree, ast.FunctionDef, ast.Lambda):
            known.extend(parameters(node))
        known.extend([node.name for node in nodes(tree, ast.ExceptHandler)])
        for node in nodes(tree, ast.Name):
            self.assertIn(node.id, known)
        found = known + [node.attr for node in nodes(tree, ast.Attribute)]
        found.extend([node.name for node in defs_of(tree)])
        for name in found:
            self.assertNotIn(name, BANNED_NAMES)
            if name != "__init__":
                self.assertRegex(name, r"^[A-Za-z][A-Za-z0-9_]*$")

    def test_names(self):
        self.on_each(self.check_names)

    def check_locals(self, tree):
        taken = dir(builtins) + imported_names(tree) + [node.name for node in nodes(tree, ast.ClassDef)]
        for node in nodes(tree, ast.FunctionDef, ast.Lambda):
            for name in parameters(node) + stored_names(node):
                self.assertNotIn(name, taken)

    def test_locals(self):
        self.on_each(self.check_locals)

    def test_methods_and_values(self):
        methods, values = methods_and_values()
        self.assertEqual([name for name in values if name in methods], [])
        self.assertEqual([name for name in values if name in TAKEN_VALUES], [])
        of_python = set()
        for kind in (str, int, list, dict, set, bytes):
            of_python.update(dir(kind))
        self.assertEqual([name for name in values + methods if name in of_python and name != "__init__"], [])
        for path in FILES:
            for node in nodes(tree_of(path), ast.Call):
                if isinstance(node.func, ast.Attribute):
                    self.assertIn(node.func.attr, METHODS + methods, path.name)

    def check_walked_at_once(self, tree):
        walked = [node.iter for node in nodes(tree, ast.For, ast.comprehension)]
        for node in nodes(tree, ast.Call):
            if called_name(node) in WALKERS:
                walked.extend(node.args)
        for node in nodes(tree, ast.Call):
            if called_name(node) in WALKED:
                self.assertIn(node, walked)

    def test_walked_at_once(self):
        self.on_each(self.check_walked_at_once)

    def check_what_is_walked_is_not_changed(self, tree):
        for loop in nodes(tree, ast.For):
            if called_name(loop.iter) in ("list", "sorted"):
                continue
            told = [ast.unparse(node) for node in ast.walk(loop.iter) if isinstance(node, (ast.Name, ast.Attribute))]
            for node in [one for statement in loop.body for one in ast.walk(statement)]:
                if isinstance(node, ast.Call) and called_name(node) in CHANGES:
                    self.assertNotIn(ast.unparse(node.func.value), told)
                if isinstance(node, ast.Subscript) and isinstance(node.ctx, ast.Store):
                    self.assertNotIn(ast.unparse(node.value), told)

    def test_what_is_walked_is_not_changed(self):
        self.on_each(self.check_what_is_walked_is_not_changed)

    def check_keywords(self, tree):
        for node in nodes(tree, ast.Call):
            for keyword in node.keywords:
                self.assertIn((called_name(node), keyword.arg), [("min", "key"), ("max", "key"), ("sorted", "key"),
                                                                 ("enumerate", "start"), ("sum", "start")])

    def test_keywords(self):
        self.on_each(self.check_keywords)


if __name__ == "__main__":
    unittest.main()
