"""The form of the package's files: the rules of the language part that a walk over the tree can see."""

import ast
import builtins
import os
import re
import unittest

ROOT = os.path.join(os.path.dirname(os.path.dirname(os.path.abspath(__file__))), "greentrace")

STATEMENTS = (ast.Assign, ast.AugAssign, ast.If, ast.While, ast.For, ast.Return, ast.Break, ast.Continue, ast.Pass,
              ast.Raise, ast.Try, ast.Expr, ast.FunctionDef, ast.ClassDef, ast.ImportFrom)
OUTSIDE = (ast.Div, ast.Set, ast.SetComp, ast.DictComp, ast.GeneratorExp, ast.NamedExpr, ast.Starred, ast.AnnAssign,
           ast.Global, ast.Nonlocal, ast.Yield, ast.YieldFrom, ast.Await)
ALLOWED = set("""len range enumerate zip min max sum abs sorted reversed int str bool list tuple dict set frozenset
isinstance ord repr any all divmod Exception ValueError TypeError KeyError IndexError LookupError ZeroDivisionError
ArithmeticError OverflowError RuntimeError NotImplementedError AttributeError StopIteration""".split())
METHODS = set("""append clear copy count endswith extend find get index insert isalnum isalpha isdigit islower isspace
isupper items join keys ljust lower lstrip partition pop remove replace reverse rfind rjust rpartition rsplit rstrip
setdefault split splitlines startswith strip update upper values zfill bit_length""".split())
PYTHONS = {name for kind in (str, int, list, dict, set, bytes, tuple) for name in dir(kind)}
WORDS = """type typing typing_extensions enum Enum IntEnum StrEnum Flag IntFlag Generic Protocol ABC ABCMeta namedtuple
NamedTuple TypedDict TYPE_CHECKING abstractmethod""".split()
NOWHERE = set("""register mro elements open input version_info with_traceback add_note attrgetter breakpoint builtins
compile copyright credits delattr dir eval exec exit gc getattr globals hasattr help id importlib license locals
methodcaller os quit setattr super vars sys format format_map""".split())


def sources():
    for name in sorted(os.listdir(ROOT)):
        if name != "__pycache__":
            with open(os.path.join(ROOT, name), encoding="utf-8") as file:
                yield name, file.read()


def trees():
    for name, text in sources():
        yield name, ast.parse(text)


def bound_names(tree):
    """Each name that a def, a parameter, an assignment or an import binds."""
    for node in ast.walk(tree):
        if isinstance(node, (ast.FunctionDef, ast.ClassDef)):
            yield node.name
        elif isinstance(node, ast.arg):
            yield node.arg
        elif isinstance(node, ast.alias):
            yield node.asname or node.name
        elif isinstance(node, ast.Name) and isinstance(node.ctx, ast.Store):
            yield node.id


class Form(unittest.TestCase):
    def test_files_and_signs(self):
        for name, text in sources():
            self.assertRegex(name, r"^[a-z0-9_]+\.py$")
            self.assertRegex(text, r"\A[ -~\n]*\Z", name)
            self.assertLessEqual(len(text.splitlines()), 400, name)
            self.assertLessEqual(max(len(line) for line in text.splitlines()), 120, name)
            for word in WORDS:
                self.assertIsNone(re.search(r"\b" + word + r"\b", text), (name, word))
            self.assertIsNone(re.search("dataclass|overload|contextmanager", text), name)

    def test_statements_and_expressions(self):
        for name, tree in trees():
            for node in ast.walk(tree):
                where = (name, getattr(node, "lineno", 0))
                if isinstance(node, ast.stmt):
                    self.assertIsInstance(node, STATEMENTS, where)
                self.assertNotIsInstance(node, OUTSIDE, where)
                if isinstance(node, ast.Assign):
                    self.assertEqual(len(node.targets), 1, where)
                    self.assertNotIsInstance(node.targets[0], (ast.Tuple, ast.List), where)
                if isinstance(node, (ast.For, ast.While)):
                    self.assertEqual(node.orelse, [], where)
                if isinstance(node, ast.ListComp):
                    self.assertEqual(len(node.generators), 1, where)
                    self.assertLessEqual(len(node.generators[0].ifs), 1, where)
                if isinstance(node, ast.Constant):
                    self.assertNotIsInstance(node.value, (float, bytes, complex), where)
                    if isinstance(node.value, str):
                        self.assertNotIn("%", node.value, where)
                if isinstance(node, ast.Compare) and isinstance(node.ops[0], (ast.Is, ast.IsNot)):
                    self.assertIsInstance(node.comparators[0], ast.Constant, where)

    def test_functions(self):
        for name, tree in trees():
            for node in ast.walk(tree):
                if isinstance(node, ast.FunctionDef):
                    self.assertLessEqual(node.end_lineno - node.lineno + 1, 40, (name, node.name))
                    self.assertEqual(node.decorator_list, [], (name, node.name))
                    self.assertIsNone(node.returns, (name, node.name))
                    self.assertIsNone(node.args.vararg or node.args.kwarg, (name, node.name))
                    self.assertEqual(node.args.kwonlyargs, [], (name, node.name))

    def test_names(self):
        for name, tree in trees():
            outer = [n.name for n in tree.body if isinstance(n, ast.ClassDef)]
            outer += [alias.name for n in tree.body if isinstance(n, ast.ImportFrom) for alias in n.names]
            top = outer + [n.name for n in tree.body if isinstance(n, ast.FunctionDef)]
            top += [n.targets[0].id for n in tree.body if isinstance(n, ast.Assign)]
            self.assertEqual(len(set(top)), len(top), name)
            for bound in set(bound_names(tree)) - {"__init__"}:
                self.assertFalse(bound.startswith("_"), (name, bound))
                self.assertNotIn(bound, NOWHERE, name)
                self.assertFalse(hasattr(builtins, bound), (name, bound))
            for node in ast.walk(tree):
                if isinstance(node, ast.FunctionDef):
                    self.assertEqual(set(bound_names(ast.Module(node.body, []))) & set(outer), set(), (name, node.name))
                    self.assertEqual({arg.arg for arg in node.args.args} & set(outer), set(), (name, node.name))
                if isinstance(node, ast.Name) and hasattr(builtins, node.id):
                    self.assertIn(node.id, ALLOWED, (name, node.lineno))

    def test_imports(self):
        drawn = {}
        for name, tree in trees():
            drawn[name[:-3]] = []
            for node in ast.walk(tree):
                self.assertNotIsInstance(node, ast.Import, name)
                if isinstance(node, ast.ImportFrom):
                    self.assertRegex(node.module, r"^greentrace\.[a-z]+$")
                    drawn[name[:-3]].append(node.module.split(".")[1])
        while drawn:
            free = [name for name in drawn if not any(other in drawn for other in drawn[name])]
            self.assertNotEqual(free, [], drawn)
            drawn = {name: drawn[name] for name in drawn if name not in free}

    def test_methods_and_values(self):
        methods = set()
        kept = set()
        for name, tree in trees():
            for node in ast.walk(tree):
                if isinstance(node, ast.ClassDef):
                    methods |= {part.name for part in node.body if isinstance(part, ast.FunctionDef)}
                if isinstance(node, ast.Attribute) and isinstance(node.ctx, ast.Store):
                    kept.add(node.attr)
        self.assertEqual(methods & kept, set())
        self.assertEqual((methods - {"__init__"}) & PYTHONS, set())
        self.assertEqual(kept & PYTHONS, set())
        for name, tree in trees():
            for node in ast.walk(tree):
                if isinstance(node, ast.Attribute):
                    self.assertIn(node.attr, methods | kept | METHODS, (name, node.lineno))


if __name__ == "__main__":
    unittest.main()
