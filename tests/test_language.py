"""The rules of LANGUAGE.md that a program can see, asked of each file of the package."""

import ast
import builtins
import os
import re
import unittest

FOLDER = os.path.join(os.path.dirname(os.path.dirname(os.path.abspath(__file__))), "eatenorders")

LIBRARY = {"math": {"gcd", "lcm", "isqrt", "comb", "perm", "factorial"},
           "heapq": {"heappush", "heappop", "heapify", "heapreplace", "heappushpop"},
           "itertools": {"product", "combinations", "permutations"}}

BUILTINS = set("""len range enumerate zip min max sum abs sorted reversed int str bool list tuple dict set isinstance
    ord repr any all divmod Exception ValueError TypeError KeyError IndexError LookupError""".split())

METHODS = set("""append clear copy count endswith extend find get index insert isalnum isalpha isdigit islower isspace
    isupper items join keys ljust lower lstrip partition pop remove replace reverse rfind rjust rpartition rsplit rstrip
    setdefault split splitlines startswith strip update upper values zfill bit_length removeprefix removesuffix add
    discard""".split())

BARRED = set("register mro elements open input law version_info with_traceback add_note".split())

WORDS = re.compile(r"\b(type|typing|typing_extensions|enum|Enum|IntEnum|StrEnum|Flag|IntFlag|Generic|Protocol|ABC|ABCMeta|"
                   r"namedtuple|NamedTuple|TypedDict|TYPE_CHECKING|abstractmethod)\b|dataclass|overload|contextmanager")

STATEMENTS = (ast.Assign, ast.AugAssign, ast.If, ast.While, ast.For, ast.Return, ast.Break, ast.Continue, ast.Pass,
              ast.Raise, ast.Assert, ast.Delete, ast.Try, ast.Expr, ast.FunctionDef, ast.ClassDef, ast.ImportFrom)

BANNED = (ast.GeneratorExp, ast.Yield, ast.YieldFrom, ast.Await, ast.Lambda, ast.NamedExpr, ast.AnnAssign, ast.Div,
          ast.MatMult, ast.Pow, ast.Global, ast.Nonlocal)


def files():
    return sorted(os.listdir(FOLDER))


def text_of(name):
    with open(os.path.join(FOLDER, name), encoding="utf-8") as file:
        return file.read()


def trees():
    return [(name, ast.parse(text_of(name))) for name in files() if name.endswith(".py")]


def docstrings(tree):
    """The docstring nodes of a tree: words in them are free."""
    found = []
    for node in ast.walk(tree):
        if isinstance(node, (ast.Module, ast.FunctionDef, ast.ClassDef)) and node.body:
            first = node.body[0]
            if isinstance(first, ast.Expr) and isinstance(first.value, ast.Constant):
                found.append(first.value)
    return found


def bound_names(function):
    """The parameters and local variables of a function."""
    own = [one.arg for one in function.args.args]
    return own + [node.id for node in ast.walk(function) if isinstance(node, ast.Name) and isinstance(node.ctx, ast.Store)]


class Files(unittest.TestCase):

    def test_the_folder_has_plain_files_alone(self):
        for name in files():
            if name != "__pycache__":
                self.assertRegex(name, r"^(__init__|[a-z][a-z0-9_]*)\.py$")

    def test_characters_lines_and_lengths(self):
        for name, _ in trees():
            text = text_of(name)
            self.assertTrue(all(sign == "\n" or " " <= sign <= "~" for sign in text), name)
            self.assertLessEqual(len(text.split("\n")), 399, name)
            self.assertLessEqual(max(len(line) for line in text.split("\n")), 120, name)

    def test_functions_have_forty_lines_at_most(self):
        for name, tree in trees():
            for node in ast.walk(tree):
                if isinstance(node, ast.FunctionDef):
                    self.assertLessEqual(node.end_lineno - node.lineno + 1, 40, (name, node.name))
                    self.assertEqual(node.decorator_list, [])
                    self.assertTrue(ast.get_docstring(node) or node.name == "__init__", (name, node.name))


class Imports(unittest.TestCase):

    def test_each_import_names_the_very_file(self):
        for name, tree in trees():
            for node in ast.walk(tree):
                self.assertNotIsInstance(node, ast.Import, name)
                if isinstance(node, ast.ImportFrom):
                    self.assertIn(node, tree.body)
                    self.check_import(name, node)

    def check_import(self, name, node):
        self.assertEqual([one.asname for one in node.names], [None] * len(node.names), name)
        told = {one.name for one in node.names}
        if node.module in LIBRARY:
            self.assertLessEqual(told, LIBRARY[node.module], name)
        else:
            package, own = node.module.split(".")
            self.assertEqual(package, "eatenorders", name)
            there = ast.parse(text_of(own + ".py"))
            defined = {one.name for one in there.body if isinstance(one, (ast.FunctionDef, ast.ClassDef))}
            defined |= {one.targets[0].id for one in there.body if isinstance(one, ast.Assign)}
            self.assertLessEqual(told, defined, name)

    def test_each_import_is_used(self):
        for name, tree in trees():
            used = {node.id for node in ast.walk(tree) if isinstance(node, ast.Name)}
            for node in tree.body:
                if isinstance(node, ast.ImportFrom):
                    self.assertLessEqual({one.name for one in node.names}, used, name)

    def test_no_two_files_import_from_each_other(self):
        wants = {name[:-3]: {node.module.split(".")[-1] for node in tree.body if isinstance(node, ast.ImportFrom)
                             and node.module.startswith("eatenorders.")} for name, tree in trees()}
        while wants:
            free = [name for name in wants if not wants[name] & set(wants)]
            self.assertTrue(free, wants)
            wants = {name: wants[name] for name in wants if name not in free}


class Code(unittest.TestCase):

    def test_statements_and_expressions(self):
        for name, tree in trees():
            for node in ast.walk(tree):
                self.assertNotIsInstance(node, BANNED, (name, getattr(node, "lineno", 0)))
                if isinstance(node, ast.stmt):
                    self.assertIsInstance(node, STATEMENTS, (name, node.lineno))

    def test_module_level(self):
        for name, tree in trees():
            for node in tree.body:
                self.assertIsInstance(node, (ast.ImportFrom, ast.FunctionDef, ast.ClassDef, ast.Assign, ast.Expr), name)
                if isinstance(node, ast.Expr):
                    self.assertIs(node, tree.body[0])
                if isinstance(node, ast.Assign):
                    plain = node.value.elts if isinstance(node.value, ast.Tuple) else [node.value]
                    self.assertTrue(all(isinstance(one, ast.Constant) for one in plain), name)

    def test_methods_of_builtin_values(self):
        for name, tree in trees():
            for node in ast.walk(tree):
                if isinstance(node, ast.Call) and isinstance(node.func, ast.Attribute):
                    self.assertIn(node.func.attr, METHODS, (name, node.lineno))

    def test_no_other_builtin_is_used_and_none_is_named_anew(self):
        for name, tree in trees():
            told = {one.name for node in tree.body if isinstance(node, ast.ImportFrom) for one in node.names}
            told |= {node.name for node in tree.body if isinstance(node, ast.ClassDef)}
            for node in ast.walk(tree):
                if isinstance(node, ast.Name) and hasattr(builtins, node.id):
                    self.assertIn(node.id, BUILTINS, (name, node.lineno))
                if isinstance(node, ast.FunctionDef):
                    self.assertNotIn(node.name, dir(builtins) if node.name != "__init__" else (), name)
                    for own in bound_names(node):
                        self.assertFalse(hasattr(builtins, own) or own in told or own in BARRED, (name, own))

    def test_is_stands_beside_none_alone(self):
        for name, tree in trees():
            for node in ast.walk(tree):
                if isinstance(node, ast.Compare) and any(isinstance(one, (ast.Is, ast.IsNot)) for one in node.ops):
                    self.assertIsInstance(node.comparators[0], ast.Constant, (name, node.lineno))

    def test_words_and_signs_of_strings(self):
        for name, tree in trees():
            free = docstrings(tree)
            for node in ast.walk(tree):
                if isinstance(node, ast.Constant) and isinstance(node.value, str):
                    self.assertNotIn("%", node.value, (name, node.lineno))
                    if node not in free:
                        self.assertIsNone(WORDS.search(node.value), (name, node.lineno))
                self.assertNotIsInstance(getattr(node, "value", None), (float, complex, bytes))
                for own in (getattr(node, "id", None), getattr(node, "arg", None), getattr(node, "attr", None)):
                    self.assertIsNone(WORDS.search(own or ""), (name, own))

    def test_sets_are_not_iterated_and_stand_where_they_may(self):
        for name, tree in trees():
            self.check_sets(name, tree)

    def check_sets(self, name, tree):
        up = {child: node for node in ast.walk(tree) for child in ast.iter_child_nodes(node)}
        for node in ast.walk(tree):
            made = isinstance(node, ast.Call) and isinstance(node.func, ast.Name) and node.func.id == "set"
            if made or isinstance(node, (ast.Set, ast.SetComp)):
                above = up[node]
                called = above.func.id if isinstance(above, ast.Call) and isinstance(above.func, ast.Name) else ""
                kept = isinstance(above, ast.Assign) and isinstance(above.targets[0], ast.Name)
                self.assertTrue(kept or called in ("sorted", "len"), (name, node.lineno))


if __name__ == "__main__":
    unittest.main()
