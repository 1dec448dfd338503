"""The rules of LANGUAGE.md that can be told from the code, over all files of the package."""

import ast
import builtins
import os
import unittest

TOP = os.path.dirname(os.path.dirname(os.path.abspath(__file__)))
PACKAGE = os.path.join(TOP, "pointingreads")

BUILTINS = set(
    "len range enumerate zip min max sum abs sorted reversed int str bool bytes list tuple dict "
    "set frozenset isinstance ord repr any all divmod pow getattr hasattr setattr Exception "
    "ValueError TypeError KeyError IndexError LookupError ZeroDivisionError ArithmeticError "
    "OverflowError RuntimeError NotImplementedError AttributeError StopIteration "
    "NotImplemented type map iter next property".split())
METHODS = set(
    "append clear copy count endswith extend find get index insert isalnum isalpha isdigit "
    "islower isspace isupper items join keys ljust lower lstrip partition pop remove replace "
    "reverse rfind rjust rpartition rsplit rstrip setdefault split splitlines startswith strip "
    "update upper values zfill bit_length add discard".split())
STATEMENTS = (
    ast.Module, ast.FunctionDef, ast.ClassDef, ast.Return, ast.Assign, ast.AugAssign, ast.For,
    ast.While, ast.If, ast.Raise, ast.Assert, ast.ImportFrom, ast.Expr, ast.Pass, ast.Break,
    ast.Continue, ast.Delete, ast.Try)
EXPRESSIONS = (
    ast.BoolOp, ast.BinOp, ast.UnaryOp, ast.Lambda, ast.IfExp, ast.Dict, ast.Set, ast.ListComp,
    ast.SetComp, ast.DictComp, ast.GeneratorExp, ast.Compare, ast.Call, ast.Constant,
    ast.Attribute, ast.Subscript, ast.Starred, ast.Name, ast.List, ast.Tuple, ast.Slice)
LIBRARY = {
    "heapq": {"heappush", "heappop", "heapify", "heapreplace", "heappushpop"},
    "math": {"gcd", "lcm", "isqrt", "comb", "perm", "factorial"},
    "itertools": {"product", "combinations", "permutations"},
    "collections": {"defaultdict", "deque"},
}
WORDS = (
    "type", "typing", "typing_extensions", "enum", "Enum", "IntEnum", "StrEnum", "Flag",
    "IntFlag", "Generic", "Protocol", "ABC", "ABCMeta", "namedtuple", "NamedTuple", "TypedDict",
    "TYPE_CHECKING", "abstractmethod", "register", "mro", "elements", "open", "input", "law",
    "version_info", "with_traceback", "add_note", "global")
ITERATED = ("zip", "enumerate", "reversed", "range", "items", "keys", "values", "map")
TAKERS = (
    "list", "tuple", "dict", "sorted", "sum", "any", "all", "enumerate", "zip", "min", "max",
    "combinations", "permutations")


def files():
    found = []
    for folder, _, names in os.walk(PACKAGE):
        if "__pycache__" not in folder:
            found.extend(os.path.join(folder, name) for name in names)
    return sorted(found)


def module_of(path):
    return os.path.relpath(path, TOP)[:-3].replace(os.sep, ".")


def name_called(node):
    if isinstance(node, ast.Call):
        if isinstance(node.func, ast.Name):
            return node.func.id
        if isinstance(node.func, ast.Attribute):
            return node.func.attr
    return None


class LanguageTest(unittest.TestCase):
    def setUp(self):
        self.trees = {}
        for path in files():
            self.assertTrue(path.endswith(".py"), path)
            with open(path, encoding="utf-8") as file:
                self.trees[path] = (file.read(), None)
        self.trees = {
            path: (text, ast.parse(text, path)) for path, (text, _) in self.trees.items()}
        for _, tree in self.trees.values():
            for node in ast.walk(tree):
                for child in ast.iter_child_nodes(node):
                    child.above = node

    def each(self, *kinds):
        for path, (_, tree) in self.trees.items():
            for node in ast.walk(tree):
                if isinstance(node, kinds):
                    yield f"{os.path.relpath(path, TOP)}:{getattr(node, 'lineno', 0)}", node

    def test_sizes_and_characters(self):
        self.assertLessEqual(len(self.trees), 100)
        for path, (text, _) in self.trees.items():
            lines = text.split("\n")
            self.assertLessEqual(len(lines), 399, path)
            for line in lines:
                self.assertLessEqual(len(line), 120, path)
                self.assertTrue(all(" " <= sign <= "~" for sign in line), path + line)
        for at, node in self.each(ast.FunctionDef):
            self.assertLessEqual(node.end_lineno - node.lineno + 1, 40, at)

    def test_only_known_statements_and_expressions(self):
        for at, node in self.each(ast.stmt):
            self.assertIsInstance(node, STATEMENTS, at)
        # only errors of the package are caught
        for at, node in self.each(ast.ExceptHandler):
            self.assertEqual((node.type.id, node.name), ("ReadError", None), at)
        for at, node in self.each(ast.Try):
            self.assertEqual((len(node.handlers), node.orelse, node.finalbody), (1, [], []), at)
        for at, node in self.each(ast.expr):
            self.assertIsInstance(node, EXPRESSIONS, at)
        known = set()
        for at, node in self.each(ast.Lambda):
            names = (at, tuple(argument.arg for argument in node.args.args))
            self.assertNotIn(names, known)
            known.add(names)
        for at, node in self.each(ast.Constant):
            self.assertIn(node.value.__class__, (int, str, bool, type(None)), at)
            if isinstance(node.value, str):
                self.assertNotIn("%", node.value, at)
        for at, node in self.each(ast.BinOp):
            self.assertNotIsInstance(node.op, (ast.Div, ast.MatMult), at)
            if isinstance(node.op, ast.Pow):
                self.assertIsInstance(node.right, ast.Constant, at)
                self.assertLessEqual(node.right.value, 64, at)

    def test_tables_at_module_level_are_only_read(self):
        tables = {
            node.targets[0].id for _, tree in self.trees.values() for node in tree.body
            if isinstance(node, ast.Assign) and isinstance(node.value, (ast.Dict, ast.List))}
        for at, node in self.each(ast.Name):
            if node.id in tables and isinstance(node.ctx, ast.Load):
                self.assertTrue(
                    isinstance(node.above, (ast.Subscript, ast.Attribute)) or name_called(node.above) in (
                        "list", "dict", "len", "sorted"), at)

    def test_module_level(self):
        for path, (_, tree) in self.trees.items():
            bound = []
            for node in tree.body:
                if isinstance(node, ast.Assign):
                    self.assertEqual(len(node.targets), 1, path)
                    self.assertIsInstance(node.targets[0], ast.Name, path)
                    bound.append(node.targets[0].id)
                elif isinstance(node, ast.ImportFrom):
                    bound.extend(name.name for name in node.names)
                elif isinstance(node, (ast.FunctionDef, ast.ClassDef)):
                    bound.append(node.name)
                    self.assertEqual(node.decorator_list, [], path)
                else:
                    self.assertIsInstance(node, ast.Expr, path)
            self.assertEqual(len(bound), len(set(bound)), path)

    def test_imports(self):
        defined = {}
        for path, (_, tree) in self.trees.items():
            defined[module_of(path)] = {
                node.name for node in tree.body if isinstance(node, (ast.FunctionDef, ast.ClassDef))
            } | {
                node.targets[0].id for node in tree.body if isinstance(node, ast.Assign)}
        needs = {module_of(path): set() for path in self.trees}
        for path, (_, tree) in self.trees.items():
            for node in tree.body:
                if isinstance(node, ast.ImportFrom):
                    self.assertEqual(node.level, 0, path)
                    for name in node.names:
                        self.assertIsNone(name.asname, path)
                        known = LIBRARY.get(node.module) or defined[node.module]
                        self.assertIn(name.name, known, path)
                    if node.module in defined:
                        needs[module_of(path)].add(node.module)
        while needs:
            free = [name for name, others in needs.items() if not others & set(needs)]
            self.assertTrue(free, "files import from each other: " + str(sorted(needs)))
            for name in free:
                del needs[name]

    def test_all_imports_are_used(self):
        for path, (_, tree) in self.trees.items():
            used = {node.id for node in ast.walk(tree) if isinstance(node, ast.Name)}
            for node in tree.body:
                if isinstance(node, ast.ImportFrom):
                    for name in node.names:
                        self.assertIn(name.name, used, path)

    def test_names(self):
        taken = set(dir(builtins))
        for path, (_, tree) in self.trees.items():
            fixed = {node.name for node in tree.body if isinstance(node, ast.ClassDef)}
            for node in tree.body:
                if isinstance(node, ast.ImportFrom):
                    fixed |= {name.name for name in node.names}
            for node in ast.walk(tree):
                name = None
                if isinstance(node, ast.arg):
                    name = node.arg
                elif isinstance(node, ast.Name) and isinstance(node.ctx, ast.Store):
                    name = node.id
                elif isinstance(node, ast.FunctionDef):
                    name = node.name
                    method = isinstance(node.above, ast.ClassDef)
                    self.assertTrue(method or name not in taken, path + name)
                    continue
                if name is not None:
                    self.assertNotIn(name, taken, path)
                    self.assertNotIn(name, fixed, path)
                    self.assertNotIn(name, WORDS, path)
                    self.assertFalse(name.startswith("__"), path)

    def test_builtins_and_methods(self):
        own = set()
        for _, node in self.each(ast.FunctionDef, ast.ClassDef):
            own.add(node.name)
        for at, node in self.each(ast.Name):
            if node.id in dir(builtins) and node.id not in own:
                self.assertIn(node.id, BUILTINS, at)
        for at, node in self.each(ast.Call):
            if isinstance(node.func, ast.Attribute):
                self.assertIn(node.func.attr, METHODS | own, at)
            if isinstance(node.func, ast.Name) and node.func.id == "type":
                self.assertIsInstance(node.above, ast.Compare, at)

    def test_words(self):
        for at, node in self.each(ast.Constant):
            if isinstance(node.value, str) and not isinstance(node.above, ast.Expr):
                for word in node.value.split():
                    self.assertNotIn(word, WORDS[:18], at)
        for at, node in self.each(ast.Attribute):
            self.assertNotIn(node.attr, WORDS, at)

    def test_identity(self):
        for at, node in self.each(ast.Compare):
            for sign, right in zip(node.ops, node.comparators):
                if isinstance(sign, (ast.Is, ast.IsNot)):
                    self.assertIsInstance(right, ast.Constant, at)
                    self.assertIn(right.value, (None, True, False), at)

    def test_sets_are_only_measured_and_sorted(self):
        for at, node in self.each(ast.Call, ast.Set, ast.SetComp):
            if not isinstance(node, ast.Call) or name_called(node) in ("set", "frozenset"):
                above = node.above
                told = name_called(above) in ("len", "sorted") or isinstance(above, ast.Compare)
                self.assertTrue(told, at)

    def test_no_generators(self):
        for at, node in self.each(ast.GeneratorExp):
            self.assertIn(name_called(node.above), ("tuple", "list", "dict", "join"), at)

    def test_views_are_iterated_at_once(self):
        for at, node in self.each(ast.Call):
            if name_called(node) in ITERATED:
                above = node.above
                told = isinstance(above, (ast.For, ast.comprehension)) and above.iter is node
                if name_called(above) in TAKERS:
                    told = above.args[0] is node or name_called(above) == "zip"
                if name_called(above) in ("len", "reversed"):
                    told = name_called(node) == "range"
                self.assertTrue(told, at)

    def test_loops_do_not_change_what_they_go_over(self):
        for at, node in self.each(ast.For):
            over = {ast.dump(part) for part in ast.walk(node.iter) if isinstance(part, ast.Name)}
            for inner in node.body:
                for part in ast.walk(inner):
                    if name_called(part) in ("append", "extend", "pop", "insert", "remove", "clear"):
                        if isinstance(part.func, ast.Attribute):
                            self.assertNotIn(ast.dump(part.func.value), over, at)


if __name__ == "__main__":
    unittest.main()
