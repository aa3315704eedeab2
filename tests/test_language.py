"""What a program can see of ../shared/LANGUAGE.md: the rules that this package might break by an oversight."""

import ast
import builtins
import os
import re
import unittest

FOLDER = os.path.join(os.path.dirname(os.path.dirname(os.path.abspath(__file__))), "unlikeplace")

BUILTINS = set("""len range enumerate zip min max sum abs sorted reversed int str bool bytes list tuple dict set
    frozenset isinstance ord repr any all divmod Exception ValueError TypeError KeyError IndexError LookupError
    ZeroDivisionError ArithmeticError OverflowError RuntimeError NotImplementedError StopIteration""".split())
METHODS = set("""append clear copy count endswith extend find get index insert isalnum isalpha isdigit islower isspace
    isupper items join keys ljust lower lstrip partition pop remove replace reverse rfind rjust rpartition rsplit
    rstrip setdefault split splitlines startswith strip update upper values zfill bit_length sort add discard
    isascii isdecimal""".split())
BARRED_WORDS = re.compile(r"""\b(type|typing|typing_extensions|enum|Enum|IntEnum|StrEnum|Flag|IntFlag|Generic|Protocol
    |ABC|ABCMeta|namedtuple|NamedTuple|TypedDict|TYPE_CHECKING|abstractmethod)\b
    |dataclass|overload|contextmanager""", re.VERBOSE)
BARRED_NAMES = set("""register mro elements open input version_info with_traceback add_note attrgetter breakpoint
    builtins compile copyright credits delattr dir eval exec exit gc getattr globals hasattr help id importlib license
    locals methodcaller os quit setattr super type vars sys""".split())
BARRED_NODES = (ast.With, ast.Match, ast.Global, ast.Nonlocal, ast.Yield, ast.YieldFrom, ast.AsyncFunctionDef,
                ast.AsyncFor, ast.AsyncWith, ast.Await, ast.GeneratorExp, ast.NamedExpr, ast.Div, ast.Import)
IN_FUNCTIONS = (ast.ListComp, ast.DictComp, ast.SetComp, ast.Set)
TOP_NODES = (ast.ImportFrom, ast.FunctionDef, ast.ClassDef, ast.Assign)


def files():
    return sorted(name for name in os.listdir(FOLDER) if name != "__pycache__")


def read(name):
    with open(os.path.join(FOLDER, name), encoding="utf-8", newline="") as file:
        return file.read()


def bound_at_top(tree):
    names = []
    for node in tree.body:
        if isinstance(node, (ast.FunctionDef, ast.ClassDef)):
            names.append(node.name)
        elif isinstance(node, ast.Assign):
            names += [target.id for target in node.targets]
        elif isinstance(node, ast.ImportFrom):
            names += [each.asname or each.name for each in node.names]
    return names


class Language(unittest.TestCase):
    def setUp(self):
        self.trees = {name: ast.parse(read(name)) for name in files()}

    def nodes(self):
        for name, tree in self.trees.items():
            for node in ast.walk(tree):
                yield f"{name}:{getattr(node, 'lineno', '')}", node

    def test_files(self):
        self.assertIn("__init__.py", files())
        for name in files():
            self.assertRegex(name, r"^([a-z][a-z0-9_]*|__init__)\.py$")
            self.assertNotIn(name[:-3], vars(builtins), name)

    def test_signs_and_sizes(self):
        for name in files():
            text = read(name)
            self.assertRegex(text, r"\A[\n -~]*\Z", name)
            lines = text.split("\n")
            self.assertLessEqual(len(lines), 400, name)
            self.assertLessEqual(max(len(line) for line in lines), 120, name)
            self.assertIsNone(BARRED_WORDS.search(text), name)
        for where, node in self.nodes():
            if isinstance(node, ast.FunctionDef):
                self.assertLessEqual(node.end_lineno - node.lineno + 1, 40, where)

    def test_imports(self):
        reached = {}
        for name, tree in self.trees.items():
            reached[name] = set()
            for node in ast.walk(tree):
                if isinstance(node, ast.ImportFrom):
                    self.assertEqual(node.level, 0, name)
                    self.assertRegex(node.module, r"^unlikeplace\.[a-z_]+$", name)
                    self.assertIn(node, tree.body, name)
                    source = node.module.split(".")[1] + ".py"
                    reached[name].add(source)
                    body = [part for part in self.trees[source].body if not isinstance(part, ast.ImportFrom)]
                    own = bound_at_top(ast.Module(body=body, type_ignores=[]))
                    self.assertLessEqual({each.name for each in node.names}, set(own), name)
        waiting = dict(reached)
        while waiting:
            free = [name for name in waiting if not reached[name] & set(waiting)]
            self.assertTrue(free, f"files import each other: {sorted(waiting)}")
            for name in free:
                del waiting[name]

    def test_top_level(self):
        for name, tree in self.trees.items():
            for at, node in enumerate(tree.body):
                docstring = at == 0 and isinstance(node, ast.Expr) and isinstance(node.value, ast.Constant)
                self.assertTrue(docstring or isinstance(node, TOP_NODES), f"{name}:{node.lineno}")
                if isinstance(node, ast.Assign):
                    self.assertEqual(len(node.targets), 1, name)
                    for part in ast.walk(node):
                        self.assertNotIsInstance(part, IN_FUNCTIONS + (ast.Call,), f"{name}:{node.lineno}")
            bound = bound_at_top(tree)
            self.assertEqual(len(bound), len(set(bound)), name)

    def test_nodes(self):
        for where, node in self.nodes():
            self.assertNotIsInstance(node, BARRED_NODES, where)
            if isinstance(node, (ast.For, ast.While)):
                self.assertEqual(node.orelse, [], where)
            if isinstance(node, ast.Constant):
                self.assertNotIsInstance(node.value, (float, complex), where)
                self.assertFalse(isinstance(node.value, str) and "%" in node.value, where)
            if isinstance(node, ast.Starred):
                self.assertIsInstance(node.ctx, ast.Store, where)
            if isinstance(node, ast.BinOp) and isinstance(node.op, ast.Pow):
                self.assertIsInstance(node.right, ast.Constant, where)
            if isinstance(node, ast.Compare):
                for op, side in zip(node.ops, node.comparators):
                    if isinstance(op, (ast.Is, ast.IsNot)):
                        self.assertTrue(isinstance(side, ast.Constant) and side.value in (None, True, False), where)
            if isinstance(node, (ast.FunctionDef, ast.ClassDef)):
                self.assertEqual(node.decorator_list, [], where)
            if isinstance(node, ast.ExceptHandler):
                self.assertIsNotNone(node.type, where)

    def test_names(self):
        for name, tree in self.trees.items():
            top = set(bound_at_top(tree))
            barred = BARRED_NAMES | set(dir(builtins))
            for node in ast.walk(tree):
                where = f"{name}:{getattr(node, 'lineno', '')}"
                made = []
                if isinstance(node, ast.arg):
                    made = [node.arg]
                if isinstance(node, ast.Name) and isinstance(node.ctx, ast.Store):
                    made = [node.id]
                if isinstance(node, (ast.FunctionDef, ast.ClassDef)) and not node.name.startswith("__"):
                    made = [node.name]
                for each in made:
                    self.assertNotIn(each, barred, where)
                    self.assertRegex(each, r"^[A-Za-z][A-Za-z0-9_]*$", where)
                if isinstance(node, ast.FunctionDef):
                    inside = {part.arg for part in ast.walk(node) if isinstance(part, ast.arg)}
                    inside |= {part.id for part in ast.walk(node)
                               if isinstance(part, ast.Name) and isinstance(part.ctx, ast.Store)}
                    self.assertFalse(inside & top, where)
                    known = inside | top | BUILTINS
                    for part in ast.walk(node):
                        if isinstance(part, ast.Name):
                            self.assertIn(part.id, known, where)

    def test_lambdas(self):
        for name, tree in self.trees.items():
            found = [(node.lineno, tuple(each.arg for each in node.args.args)) for node in ast.walk(tree)
                     if isinstance(node, ast.Lambda)]
            self.assertEqual(len(found), len(set(found)), name)

    def test_iterated_at_once(self):
        for where, node in self.nodes():
            if isinstance(node, (ast.Assign, ast.Return)) and isinstance(node.value, ast.Call):
                called = node.value.func
                name = called.id if isinstance(called, ast.Name) else called.attr
                self.assertNotIn(name, ("zip", "enumerate", "reversed", "range", "items", "keys", "values"), where)

    def test_methods(self):
        own = {part.name for tree in self.trees.values() for node in tree.body if isinstance(node, ast.ClassDef)
               for part in node.body if isinstance(part, ast.FunctionDef)}
        for where, node in self.nodes():
            if isinstance(node, ast.Call) and isinstance(node.func, ast.Attribute):
                self.assertIn(node.func.attr, METHODS | own, where)


if __name__ == "__main__":
    unittest.main()
