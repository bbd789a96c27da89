"""The rules of LANGUAGE.md that can be looked at simply; the others are for the reader."""

import ast
import builtins
import os
import re
import unittest
import warnings

import panfalls

FOLDER = os.path.dirname(panfalls.__file__)
BUILTINS = set(
    "len range enumerate zip min max sum abs sorted reversed int str bool list tuple dict set frozenset"
    " isinstance ord repr any all divmod Exception ValueError TypeError KeyError IndexError LookupError"
    " ZeroDivisionError ArithmeticError OverflowError RuntimeError NotImplementedError AttributeError"
    " StopIteration NotImplemented".split()
)
BARRED = set(
    "type typing typing_extensions enum Enum IntEnum StrEnum Flag IntFlag Generic Protocol ABC ABCMeta"
    " namedtuple NamedTuple TypedDict TYPE_CHECKING abstractmethod register mro elements open input".split()
)
STATEMENTS = (ast.FunctionDef, ast.ClassDef, ast.ImportFrom, ast.Assign, ast.Expr)


def files():
    return sorted(name for name in os.listdir(FOLDER) if name != "__pycache__")


def text_of(name):
    with open(os.path.join(FOLDER, name), encoding="utf-8") as file:
        return file.read()


def trees():
    return [(name, ast.parse(text_of(name))) for name in files()]


def nodes(kind):
    return [(name, node) for name, tree in trees() for node in ast.walk(tree) if isinstance(node, kind)]


def own_names(tree):
    """What a file itself binds at module level, as often as it does."""
    names = []
    for node in tree.body:
        if isinstance(node, (ast.FunctionDef, ast.ClassDef)):
            names.append(node.name)
        elif isinstance(node, ast.Assign):
            names += [target.id for target in node.targets]
    return names


class Files(unittest.TestCase):
    def test_names(self):
        for name in files():
            self.assertRegex(name, r"\A[a-z0-9_]+\.py\Z")

    def test_signs_and_sizes(self):
        for name in files():
            text = text_of(name)
            self.assertRegex(text, r"\A[ -~\n]*\Z")
            rows = text.splitlines()
            self.assertLessEqual(len(rows), 400)
            self.assertLessEqual(max(len(row) for row in rows), 120)

    def test_barred_words(self):
        for name in files():
            self.assertEqual(BARRED & set(re.findall(r"\w+", text_of(name))), set())

    def test_no_warnings(self):
        for name in files():
            with warnings.catch_warnings():
                warnings.simplefilter("error")
                compile(text_of(name), name, "exec")


class Code(unittest.TestCase):
    def test_module_level(self):
        for name, tree in trees():
            for node in tree.body:
                self.assertIsInstance(node, STATEMENTS, name)

    def test_imports(self):
        self.assertEqual(nodes(ast.Import), [])
        for name, node in nodes(ast.ImportFrom):
            self.assertEqual(node.level, 0)
            self.assertRegex(node.module, r"\Apanfalls\.\w+\Z")

    def test_functions_are_short(self):
        for name, node in nodes(ast.FunctionDef):
            self.assertLessEqual(node.end_lineno - node.lineno + 1, 40, node.name)

    def test_builtins(self):
        for name, node in nodes(ast.Name):
            if isinstance(node.ctx, ast.Store):
                self.assertFalse(hasattr(builtins, node.id), node.id)
            elif hasattr(builtins, node.id):
                self.assertIn(node.id, BUILTINS, name)

    def test_arguments_and_imports_are_not_bound_anew(self):
        for name, tree in trees():
            taken = set()
            for node in ast.walk(tree):
                if isinstance(node, ast.ImportFrom):
                    taken |= {alias.name for alias in node.names}
                elif isinstance(node, ast.ClassDef):
                    taken.add(node.name)
            for node in ast.walk(tree):
                if isinstance(node, ast.arg):
                    self.assertFalse(hasattr(builtins, node.arg), node.arg)
                    self.assertNotIn(node.arg, taken, name)
                elif isinstance(node, ast.Name) and isinstance(node.ctx, ast.Store):
                    self.assertNotIn(node.id, taken, name)

    def test_plain_names(self):
        for name, node in nodes(ast.Name):
            self.assertFalse(node.id.startswith("_"), node.id)

    def test_no_floats(self):
        self.assertEqual(nodes(ast.Div), [])
        for name, node in nodes(ast.Constant):
            self.assertNotIsInstance(node.value, (float, complex))

    def test_powers_have_literal_exponents(self):
        for name, node in nodes(ast.BinOp):
            if isinstance(node.op, ast.Pow):
                self.assertIsInstance(node.right, ast.Constant, name)
                self.assertIn(node.right.value, range(65), name)

    def test_no_percent_sign_in_strings(self):
        for name, node in nodes(ast.Constant):
            if isinstance(node.value, str):
                self.assertNotIn("%", node.value, name)

    def test_names_are_bound_once_and_imported_from_their_own_file(self):
        own = {name: own_names(tree) for name, tree in trees()}
        for name, tree in trees():
            bound = list(own[name])
            for node in tree.body:
                if isinstance(node, ast.ImportFrom):
                    for alias in node.names:
                        self.assertIn(alias.name, own[node.module.split(".")[1] + ".py"], name)
                        bound.append(alias.asname or alias.name)
            self.assertEqual(sorted(bound), sorted(set(bound)), name)

    def test_imports_are_used(self):
        for name, tree in trees():
            used = {node.id for node in ast.walk(tree) if isinstance(node, ast.Name)}
            for node in tree.body:
                if isinstance(node, ast.ImportFrom):
                    for alias in node.names:
                        self.assertIn(alias.name, used, name)

    def test_what_is_iterated_at_once_is_not_stored(self):
        for name, node in nodes((ast.Assign, ast.Return)):
            if isinstance(node.value, ast.Call) and isinstance(node.value.func, ast.Name):
                self.assertNotIn(node.value.func.id, ("zip", "enumerate", "reversed", "range"), name)

    def test_lists_instead_of_generators(self):
        # Works has __eq__ and __len__, so any, all, sum and their kin take lists; nothing is sorted in place.
        self.assertEqual(nodes((ast.GeneratorExp, ast.Yield, ast.YieldFrom)), [])
        for name, node in nodes(ast.Attribute):
            self.assertNotIn(node.attr, ("sort", "format", "bit_count"), name)

    def test_no_decorators_and_no_slash(self):
        for name, node in nodes((ast.FunctionDef, ast.ClassDef)):
            self.assertEqual(node.decorator_list, [], node.name)
        for name, node in nodes(ast.arguments):
            self.assertEqual(node.posonlyargs, [], name)

    def test_no_name_is_a_method_and_an_attribute(self):
        methods = {
            node.name for name, made in nodes(ast.ClassDef) for node in made.body if isinstance(node, ast.FunctionDef)
        }
        assigned = {node.attr for name, node in nodes(ast.Attribute) if isinstance(node.ctx, ast.Store)}
        self.assertEqual(methods & assigned, set())
        for kind in (int, str, list, dict, set, bytes):
            self.assertEqual({name for name in methods if not name.startswith("__")} & set(dir(kind)), set())

    def test_own_errors_alone_are_caught(self):
        own = {node.name for name, node in nodes(ast.ClassDef) if name == "errors.py"}
        for name, node in nodes(ast.ExceptHandler):
            self.assertIn(node.type.id, own, name)

    def test_no_two_files_import_from_each_other(self):
        below = {
            name[:-3]: {node.module.split(".")[1] for node in tree.body if isinstance(node, ast.ImportFrom)}
            for name, tree in trees()
        }
        while below:
            free = [name for name in below if not below[name] & set(below)]
            self.assertTrue(free, below)
            for name in free:
                del below[name]

    def test_is_beside_constants_alone(self):
        for name, node in nodes(ast.Compare):
            for sign, right in zip(node.ops, node.comparators):
                if isinstance(sign, (ast.Is, ast.IsNot)):
                    self.assertIsInstance(right, ast.Constant)
                    self.assertIn(right.value, (None, True, False))


if __name__ == "__main__":
    unittest.main()
