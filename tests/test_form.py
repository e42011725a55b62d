"""The form of the package's files: the rules that can be read off their trees and letters."""

import ast
import builtins
import pathlib
import re
import unittest

ROOT = pathlib.Path(__file__).resolve().parent.parent
PACKAGE = ROOT / "protesthall"

NODES = (
    ast.Module, ast.FunctionDef, ast.arguments, ast.arg, ast.ClassDef, ast.Return, ast.Assign, ast.AugAssign, ast.For,
    ast.While, ast.If, ast.Raise, ast.Try, ast.ExceptHandler, ast.ImportFrom, ast.alias, ast.Expr, ast.Pass, ast.Break,
    ast.Continue, ast.BoolOp, ast.BinOp, ast.UnaryOp, ast.Lambda, ast.IfExp, ast.Dict, ast.ListComp, ast.comprehension,
    ast.Compare, ast.Call, ast.keyword, ast.JoinedStr, ast.FormattedValue, ast.Constant, ast.Attribute, ast.Subscript,
    ast.Name, ast.List, ast.Tuple, ast.Slice, ast.expr_context, ast.boolop, ast.unaryop, ast.cmpop, ast.Add, ast.Sub,
    ast.Mult, ast.FloorDiv, ast.Mod, ast.Pow, ast.BitAnd, ast.BitOr, ast.BitXor, ast.LShift, ast.RShift,
)
BUILT_IN = set(
    "len range enumerate zip min max sum abs sorted reversed int str bool list tuple dict set frozenset isinstance ord "
    "repr any all divmod Exception ValueError TypeError KeyError IndexError LookupError ZeroDivisionError "
    "ArithmeticError OverflowError RuntimeError NotImplementedError AttributeError StopIteration".split())
METHODS = set(
    "append clear copy count endswith extend find get index insert isalnum isalpha isdigit islower isspace isupper "
    "items join keys ljust lower lstrip partition pop remove replace reverse rfind rjust rpartition rsplit rstrip "
    "setdefault split splitlines startswith strip update upper values zfill bit_length".split())
CHANGES = set("append clear extend insert pop remove reverse setdefault update".split())
NOWHERE = set("register mro elements open input version_info with_traceback add_note".split())
NOT_AS_NAMES = set(
    "attrgetter breakpoint builtins compile copyright credits delattr dir eval exec exit gc getattr globals hasattr "
    "help id importlib license locals methodcaller os quit setattr super type vars sys __name__".split())
WORDS = set(
    "type typing typing_extensions enum Enum IntEnum StrEnum Flag IntFlag Generic Protocol ABC ABCMeta namedtuple "
    "NamedTuple TypedDict TYPE_CHECKING abstractmethod".split())
OWN = set(dir(builtins))
FILES_NOT = set("test tests testing site conftest sitecustomize usercustomize".split()) | WORDS | OWN
KINDS = (str, int, list, dict, set, bytes)
PYTHONS_OWN = set().union(*[dir(kind) for kind in KINDS])
VALUES_TOO = set("count index title find get join lower upper split strip copy add".split())


def files():
    return sorted(PACKAGE.rglob("*.py"))


def trees():
    return [(path, ast.parse(path.read_text())) for path in files()]


def nodes(kind):
    return [(path, node) for path, tree in trees() for node in ast.walk(tree) if isinstance(node, kind)]


class Form(unittest.TestCase):
    def none(self, found):
        self.assertEqual([str(each) for each in found], [])

    def test_files(self):
        self.assertTrue((PACKAGE / "__init__.py").is_file())
        for path in PACKAGE.rglob("*"):
            if "__pycache__" in path.parts:
                continue
            self.assertTrue(path.is_dir() or re.fullmatch("[a-z0-9_]+[.]py", path.name), path)
            self.assertFalse(path.stem in FILES_NOT or path.stem.startswith("test_"), path)

    def test_letters_and_sizes(self):
        for path in files():
            rows = path.read_bytes().decode("ascii").split("\n")
            self.assertLessEqual(len(rows), 401, path)
            self.none([(path.name, row) for row in rows if len(row) > 120 or re.search("[^ -~]", row)])
        self.none([(path.name, node.name) for path, node in nodes(ast.FunctionDef)
                   if node.end_lineno - node.lineno + 1 > 40])

    def test_words_that_stand_nowhere(self):
        for path in files():
            content = path.read_text()
            self.none(WORDS & set(re.findall("[A-Za-z0-9_]+", content)))
            self.none(re.findall("dataclass|overload|contextmanager", content))

    def test_nodes(self):
        self.none([(path.name, ast.dump(node)) for path, node in nodes(ast.AST) if not isinstance(node, NODES)])

    def test_top_of_files(self):
        for path, tree in trees():
            self.assertIsNotNone(ast.get_docstring(tree), path)
            bound = []
            for place, node in enumerate(tree.body):
                if isinstance(node, ast.Assign):
                    bound.append(node.targets[0].id)
                    self.assertIsInstance(node.value, (ast.Constant, ast.Tuple, ast.List, ast.Dict, ast.UnaryOp))
                elif isinstance(node, (ast.FunctionDef, ast.ClassDef)):
                    bound.append(node.name)
                elif isinstance(node, ast.ImportFrom):
                    bound.extend(alias.name for alias in node.names)
                else:
                    self.assertTrue(place == 0 and isinstance(node, ast.Expr), ast.dump(node))
            self.assertEqual(len(bound), len(set(bound)), path)

    def test_imports(self):
        drawn = {}
        for path, tree in trees():
            inner = [node for node in ast.walk(tree) if isinstance(node, ast.ImportFrom)]
            self.assertEqual(inner, [node for node in tree.body if isinstance(node, ast.ImportFrom)])
            drawn[path.stem] = [node.module.rpartition(".")[2] for node in inner]
            for node in inner:
                self.assertTrue(node.level == 0 and node.module.startswith("protesthall."))
                source = ast.parse((PACKAGE / (node.module.partition(".")[2] + ".py")).read_text())
                defined = [each.name for each in source.body if isinstance(each, (ast.FunctionDef, ast.ClassDef))]
                defined += [each.targets[0].id for each in source.body if isinstance(each, ast.Assign)]
                self.none([alias.name for alias in node.names if alias.asname or alias.name not in defined])
        while drawn:
            free = [name for name in drawn if not set(drawn[name]) & set(drawn)]
            self.assertTrue(free, "files draw from one another")
            drawn = {name: drawn[name] for name in drawn if name not in free}

    def test_functions(self):
        for path, node in nodes((ast.FunctionDef, ast.Lambda)):
            told = node.args
            self.assertFalse(told.vararg or told.kwarg or told.kwonlyargs or told.posonlyargs, path)
            self.assertFalse([each for each in told.args if each.annotation], path)
        for path, node in nodes(ast.FunctionDef):
            self.assertFalse(node.decorator_list or node.returns, node.name)

    def test_classes(self):
        methods, values = set(), set()
        for path, node in nodes(ast.ClassDef):
            self.assertFalse(node.decorator_list or node.keywords or len(node.bases) > 1, node.name)
            body = node.body[1:] if ast.get_docstring(node) else node.body
            self.none([each for each in body if not isinstance(each, ast.FunctionDef)])
            names = [each.name for each in body]
            self.assertEqual(len(names), len(set(names)), node.name)
            methods |= set(names)
            values |= {each.attr for each in ast.walk(node)
                       if isinstance(each, ast.Attribute) and isinstance(each.ctx, ast.Store)}
        self.none(methods & values)
        self.none((methods - {"__init__", "add", "discard"} - METHODS) & PYTHONS_OWN)
        self.none((values - VALUES_TOO) & PYTHONS_OWN)
        attributes = {node.attr for path, node in nodes(ast.Attribute)}
        self.none(attributes - methods - values - METHODS)

    def test_names(self):
        for path, tree in trees():
            top = {node.name for node in tree.body if isinstance(node, (ast.ClassDef, ast.FunctionDef))}
            top |= {alias.name for node in tree.body if isinstance(node, ast.ImportFrom) for alias in node.names}
            top |= {node.targets[0].id for node in tree.body if isinstance(node, ast.Assign)}
            for node in ast.walk(tree):
                if isinstance(node, ast.FunctionDef):
                    stored = {each.id for each in ast.walk(node)
                              if isinstance(each, ast.Name) and isinstance(each.ctx, ast.Store)}
                    stored |= {each.arg for each in node.args.args}
                    self.none((stored & top) | (stored & OWN))
                    read = {each.id for each in ast.walk(node) if isinstance(each, ast.Name)}
                    self.none(read - stored - top - BUILT_IN)
                    self.none([name for name in stored | {node.name} if name.startswith("_") and name != "__init__"])
        used = {node.id for path, node in nodes(ast.Name)} | {node.attr for path, node in nodes(ast.Attribute)}
        used |= {node.name for path, node in nodes((ast.FunctionDef, ast.ClassDef))}
        self.none(used & NOWHERE)
        self.none({node.id for path, node in nodes(ast.Name)} & NOT_AS_NAMES)

    def test_values(self):
        for path, node in nodes(ast.Constant):
            self.assertIsInstance(node.value, (int, str, bool, type(None)))
            self.assertFalse(isinstance(node.value, str) and "%" in node.value, path)
        for path in files():
            self.none(re.findall(r"\\[^nt\\'\"]", path.read_text()))
        for path, node in nodes(ast.comprehension):
            self.assertLessEqual(len(node.ifs), 1)
        for path, node in nodes(ast.ListComp):
            self.assertEqual(len(node.generators), 1)
        for path, node in nodes(ast.FormattedValue):
            self.assertIsInstance(node.value, ast.Name)

    def test_statements(self):
        for path, node in nodes((ast.For, ast.While)):
            self.assertFalse(node.orelse, path)
        for path, node in nodes(ast.Assign):
            self.assertEqual(len(node.targets), 1)
            self.assertIsInstance(node.targets[0], (ast.Name, ast.Attribute, ast.Subscript))
        for path, node in nodes(ast.Expr):
            self.assertIsInstance(node.value, (ast.Call, ast.Constant))
        for path, node in nodes(ast.Compare):
            for sign, right in zip(node.ops, node.comparators):
                if isinstance(sign, (ast.Is, ast.IsNot)):
                    self.assertIsInstance(right, ast.Constant)

    def test_what_is_walked_is_not_changed(self):
        for path, loop in nodes(ast.For):
            walked = {ast.dump(each).replace("Store()", "Load()") for each in ast.walk(loop.iter)
                      if isinstance(each, (ast.Name, ast.Attribute))}
            for node in [each for row in loop.body for each in ast.walk(row)]:
                if isinstance(node, ast.Call) and isinstance(node.func, ast.Attribute) and node.func.attr in CHANGES:
                    self.assertNotIn(ast.dump(node.func.value), walked, path)
                if isinstance(node, ast.Subscript) and isinstance(node.ctx, ast.Store):
                    self.assertNotIn(ast.dump(node.value), walked, path)

    def test_calls(self):
        for path, node in nodes(ast.Call):
            words = {each.arg for each in node.keywords}
            if words:
                self.assertIsInstance(node.func, ast.Name)
                allowed = {"sorted": {"key", "reverse"}, "min": {"key", "default"}, "max": {"key", "default"},
                           "sum": {"start"}, "enumerate": {"start"}, "zip": {"strict"}}
                self.assertTrue(words <= allowed.get(node.func.id, set()), ast.dump(node))
            if isinstance(node.func, ast.Name):
                self.assertNotEqual(node.func.id, "chr")

    def test_tables_of_a_file_s_top_are_only_read(self):
        for path, tree in trees():
            tables = {node.targets[0].id for node in tree.body
                      if isinstance(node, ast.Assign) and isinstance(node.value, (ast.List, ast.Dict))}
            above = {id(child): node for node in ast.walk(tree) for child in ast.iter_child_nodes(node)}
            for node in ast.walk(tree):
                if isinstance(node, ast.Name) and node.id in tables and isinstance(node.ctx, ast.Load):
                    around = above[id(node)]
                    copied = isinstance(around, ast.Call) and around.func.id in ("dict", "list", "len", "sorted")
                    read = isinstance(around, ast.Compare) or (
                        isinstance(around, ast.Subscript) and isinstance(around.ctx, ast.Load))
                    self.assertTrue(copied or read, (path.name, node.lineno))


if __name__ == "__main__":
    unittest.main()
