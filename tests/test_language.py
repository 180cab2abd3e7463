"""The package keeps to its small part of Python: what of the rules can be seen by reading the files."""

import ast
import builtins
import pathlib
import re
import unittest

PACKAGE = pathlib.Path(__file__).resolve().parent.parent / "carrierround"
FILES = sorted(PACKAGE.glob("*.py"))

NODES = (
    ast.Module, ast.ImportFrom, ast.alias, ast.FunctionDef, ast.ClassDef, ast.arguments, ast.arg, ast.Lambda,
    ast.Assign, ast.AugAssign, ast.If, ast.While, ast.For, ast.Return, ast.Break, ast.Continue, ast.Pass, ast.Raise,
    ast.Try, ast.ExceptHandler, ast.Expr, ast.Constant, ast.List, ast.Tuple, ast.Dict, ast.Name, ast.Attribute,
    ast.Subscript, ast.Slice, ast.Call, ast.keyword, ast.BinOp, ast.UnaryOp, ast.BoolOp, ast.Compare, ast.IfExp,
    ast.ListComp, ast.comprehension, ast.operator, ast.unaryop, ast.boolop, ast.cmpop, ast.expr_context)
OWN_NAMES = """len range enumerate zip min max sum abs sorted reversed int str bool list tuple dict isinstance ord repr
    any all divmod Exception ValueError KeyError IndexError LookupError ZeroDivisionError StopIteration""".split()
METHODS = """append clear copy count endswith extend find get index insert items join keys pop remove replace reverse
    setdefault split startswith strip update values bit_length""".split()
WORDS = """type typing typing_extensions enum Enum IntEnum StrEnum Flag IntFlag Generic Protocol ABC ABCMeta namedtuple
    NamedTuple TypedDict TYPE_CHECKING abstractmethod""".split()
PARTS = ("dataclass", "overload", "contextmanager")
UNUSED = """register mro elements open input version_info with_traceback add_note attrgetter breakpoint builtins compile
    delattr dir eval exec exit gc getattr globals hasattr help id importlib locals os quit setattr super vars sys
    format format_map sort args encode print""".split()


def bound_names(tree):
    """The parameters and locals of all functions."""
    for node in ast.walk(tree):
        if isinstance(node, ast.arg):
            yield node.arg
        if isinstance(node, ast.Name) and isinstance(node.ctx, ast.Store):
            yield node.id


class Language(unittest.TestCase):
    def each(self):
        for path in FILES:
            text = path.read_bytes().decode("ascii")
            yield path, text, ast.parse(text, filename=path.name)

    def test_files(self):
        there = [path.name for path in PACKAGE.iterdir() if path.name != "__pycache__"]
        self.assertEqual(sorted(there), [path.name for path in FILES])
        self.assertIn("__init__.py", there)
        for path in FILES:
            self.assertRegex(path.stem, r"^[a-z][a-z0-9_]*$|^__init__$")
            self.assertNotIn(path.stem, dir(builtins))

    def test_signs_and_sizes(self):
        for path, text, tree in self.each():
            self.assertRegex(text, r"\A[ -~\n]*\Z")
            lines = text.split("\n")
            self.assertLessEqual(len(lines), 400)
            self.assertLessEqual(max(len(line) for line in lines), 120)
            for node in ast.walk(tree):
                if isinstance(node, ast.FunctionDef):
                    self.assertLessEqual(node.end_lineno - node.lineno + 1, 40, node.name)

    def test_words(self):
        for path, text, tree in self.each():
            found = re.findall(r"\w+", text)
            self.assertEqual([word for word in found if word in WORDS], [])
            self.assertEqual([part for part in PARTS if part in text], [])

    def test_forms(self):
        for path, text, tree in self.each():
            for node in ast.walk(tree):
                self.assertIsInstance(node, NODES, ast.dump(node))
                if isinstance(node, ast.Constant):
                    self.assertIsInstance(node.value, (int, str, type(None)))
                    self.assertFalse(isinstance(node.value, str) and "%" in node.value)
                if isinstance(node, ast.Assign):
                    self.assertEqual(len(node.targets), 1)
                    self.assertIsInstance(node.targets[0], (ast.Name, ast.Attribute, ast.Subscript))
                if isinstance(node, (ast.For, ast.While)):
                    self.assertEqual(node.orelse, [])
                if isinstance(node, ast.ListComp):
                    self.assertEqual(len(node.generators), 1)
                    self.assertLessEqual(len(node.generators[0].ifs), 1)
                if isinstance(node, ast.BinOp):
                    self.assertNotIsInstance(node.op, (ast.Div, ast.Pow, ast.MatMult))
                if isinstance(node, ast.Compare):
                    self.assertFalse(any(isinstance(op, (ast.Is, ast.IsNot)) for op in node.ops))
                if isinstance(node, (ast.FunctionDef, ast.ClassDef)):
                    self.assertEqual(node.decorator_list, [])
                    self.assertTrue(ast.get_docstring(node) or isinstance(node, ast.FunctionDef))

    def test_the_top_of_a_file(self):
        for path, text, tree in self.each():
            self.assertTrue(ast.get_docstring(tree))
            names = []
            for node in tree.body[1:]:
                self.assertIsInstance(node, (ast.ImportFrom, ast.FunctionDef, ast.ClassDef, ast.Assign))
                if isinstance(node, ast.ImportFrom):
                    self.assertRegex(node.module, r"^carrierround\.[a-z]+$")
                    self.assertEqual(node.level, 0)
                    names += [alias.asname or alias.name for alias in node.names]
                elif isinstance(node, ast.Assign):
                    ast.literal_eval(node.value)
                    names.append(node.targets[0].id)
                else:
                    names.append(node.name)
            self.assertEqual(len(names), len(set(names)))

    def test_imports_come_from_the_file_that_defines_and_run_in_no_ring(self):
        drawn = {}
        for path, text, tree in self.each():
            drawn[path.stem] = []
            for node in tree.body:
                if isinstance(node, ast.ImportFrom):
                    source = node.module.split(".")[1]
                    drawn[path.stem].append(source)
                    body = ast.parse((PACKAGE / f"{source}.py").read_text()).body
                    defined = [one.name for one in body if isinstance(one, (ast.FunctionDef, ast.ClassDef))]
                    defined += [one.targets[0].id for one in body if isinstance(one, ast.Assign)]
                    self.assertLessEqual({alias.name for alias in node.names}, set(defined))
        while drawn:
            done = [name for name in drawn if not any(source in drawn for source in drawn[name])]
            self.assertTrue(done, drawn)
            drawn = {name: drawn[name] for name in drawn if name not in done}

    def test_names(self):
        for path, text, tree in self.each():
            defined = set(bound_names(tree))
            for node in tree.body:
                if isinstance(node, (ast.FunctionDef, ast.ClassDef)):
                    defined.add(node.name)
                if isinstance(node, ast.ImportFrom):
                    defined |= {alias.name for alias in node.names}
                    self.assertEqual(set(bound_names(tree)) & {alias.name for alias in node.names}, set())
            self.assertEqual(defined & set(dir(builtins)), set())
            self.assertEqual([name for name in defined if name.startswith("_") or name in UNUSED], [])
            for node in ast.walk(tree):
                if isinstance(node, ast.Name):
                    self.assertTrue(node.id in defined or node.id in OWN_NAMES, node.id)

    def test_methods_and_values(self):
        methods = set()
        values = set()
        called = set()
        for path, text, tree in self.each():
            for node in ast.walk(tree):
                if isinstance(node, ast.ClassDef):
                    methods |= {one.name for one in node.body if isinstance(one, ast.FunctionDef)}
                if isinstance(node, ast.Attribute) and isinstance(node.ctx, ast.Store):
                    values.add(node.attr)
                if isinstance(node, ast.Call) and isinstance(node.func, ast.Attribute):
                    called.add(node.func.attr)
        python_own = {name for kind in (str, int, list, dict, set, bytes, tuple) for name in dir(kind)}
        self.assertEqual(methods & values, set())
        self.assertEqual((methods | values) & python_own - {"__init__"}, set())
        self.assertEqual(called - methods - set(METHODS), set())
        self.assertEqual((methods | values) & set(UNUSED), set())
