"""The part of Python that the package keeps to, as far as a walk over its files can see it."""

import ast
import builtins
import pathlib
import re
import unittest

PACKAGE = pathlib.Path(__file__).resolve().parent.parent / "oneslate"

# L8
OWN_NAMES = set("""
    len range enumerate zip min max sum abs sorted reversed int str bool list tuple dict set frozenset isinstance ord
    repr any all divmod Exception ValueError TypeError KeyError IndexError LookupError ZeroDivisionError
    ArithmeticError OverflowError RuntimeError NotImplementedError AttributeError StopIteration
""".split())

# L17
WORDS_NOWHERE = """
    type typing typing_extensions enum Enum IntEnum StrEnum Flag IntFlag Generic Protocol ABC ABCMeta namedtuple
    NamedTuple TypedDict TYPE_CHECKING abstractmethod
""".split()
PIECES_NOWHERE = ["dataclass", "overload", "contextmanager"]
NAMES_NOWHERE = set("""
    register mro elements open input version_info with_traceback add_note f_back tb_next co_names attrgetter breakpoint
    builtins compile copyright credits delattr dir eval exec exit gc getattr globals hasattr help id importlib license
    locals methodcaller os quit setattr super vars sys format format_map
""".split())

# L25
OWN_METHODS = set("""
    append clear copy count endswith extend find get index insert isalnum isalpha isdigit islower isspace isupper items
    join keys ljust lower lstrip partition pop remove replace reverse rfind rjust rpartition rsplit rstrip setdefault
    split splitlines startswith strip update upper values zfill bit_length
""".split())

# L6, L7: no set is written out here, and no chained comparison of identities but with None.
NODES = """
    Module Import ImportFrom alias FunctionDef arguments arg ClassDef Assign AugAssign If While For Return Break
    Continue Pass Raise Try ExceptHandler Expr Constant Name Load Store List Tuple Dict BinOp UnaryOp BoolOp Compare
    IfExp Call keyword Attribute Subscript Slice ListComp comprehension JoinedStr FormattedValue Lambda
    Add Sub Mult FloorDiv Mod Pow LShift RShift BitOr BitXor BitAnd USub UAdd Not Invert And Or
    Eq NotEq Lt LtE Gt GtE Is IsNot In NotIn
""".split()

KINDS_ASKED = {"int", "str", "bool", "list", "tuple", "dict"}


def files():
    return sorted(PACKAGE.glob("*.py"))


def trees():
    return [(path, ast.parse(path.read_text(encoding="utf-8"))) for path in files()]


def nodes_of(kinds):
    return [(path, node) for path, tree in trees() for node in ast.walk(tree) if isinstance(node, kinds)]


def where(path, node):
    return f"{path.name}:{node.lineno}"


def bound_within(node):
    """Tell the parameters and locals of a def or lambda."""
    names = {arg.arg for arg in node.args.args}
    for inner in ast.walk(node):
        if isinstance(inner, ast.Name) and isinstance(inner.ctx, ast.Store):
            names.add(inner.id)
        if isinstance(inner, ast.ExceptHandler) and inner.name:
            names.add(inner.name)
    return names


def bound_at_top(tree):
    names = []
    for node in tree.body:
        if isinstance(node, (ast.FunctionDef, ast.ClassDef)):
            names.append(node.name)
        if isinstance(node, ast.ImportFrom):
            names.extend(alias.name for alias in node.names)
        if isinstance(node, ast.Assign):
            names.append(node.targets[0].id)
    return names


def is_plain(node, functions):
    """Tell whether a value of a file's top is a plain one (L3)."""
    if isinstance(node, ast.Constant):
        return isinstance(node.value, (int, str)) or node.value is None
    if isinstance(node, (ast.Tuple, ast.List)):
        return all(is_plain(one, functions) for one in node.elts)
    if isinstance(node, ast.Dict):
        return all(is_plain(one, functions) for one in node.keys + node.values)
    return isinstance(node, ast.Name) and node.id in functions


class FilesTest(unittest.TestCase):

    def test_files_and_signs(self):
        for path in PACKAGE.iterdir():
            if path.name != "__pycache__":
                self.assertRegex(path.name, r"^(__init__|[a-z][a-z0-9_]*)\.py$")
                self.assertNotIn(path.stem, dir(builtins))
                self.assertIsNone(re.search(r"[^\n -~]", path.read_text(encoding="utf-8")), path.name)

    def test_sizes(self):
        for path in files():
            rows = path.read_text(encoding="utf-8").split("\n")
            self.assertLessEqual(len(rows), 400, path.name)
            self.assertLessEqual(max(len(row) for row in rows), 120, path.name)
        for path, node in nodes_of(ast.FunctionDef):
            self.assertLessEqual(node.end_lineno - node.lineno + 1, 40, where(path, node))

    def test_words_that_stand_nowhere(self):
        for path in files():
            text = path.read_text(encoding="utf-8")
            for word in re.findall(r"[A-Za-z_0-9]+", text):
                self.assertNotIn(word, WORDS_NOWHERE, path.name)
                self.assertFalse(any(piece in word for piece in PIECES_NOWHERE), path.name)

    def test_tops(self):
        for path, tree in trees():
            functions = set()
            self.assertIsNotNone(ast.get_docstring(tree), path.name)
            for node in tree.body[1:]:
                self.assertIsInstance(node, (ast.ImportFrom, ast.FunctionDef, ast.ClassDef, ast.Assign), path.name)
                if isinstance(node, ast.FunctionDef):
                    functions.add(node.name)
                if isinstance(node, ast.Assign):
                    self.assertTrue(is_plain(node.value, functions), where(path, node))
            names = bound_at_top(tree)
            self.assertEqual(len(names), len(set(names)), path.name)


class ImportsTest(unittest.TestCase):

    def drawn(self):
        found = {}
        for path, tree in trees():
            rows = [node for node in ast.walk(tree) if isinstance(node, (ast.Import, ast.ImportFrom))]
            self.assertTrue(all(isinstance(node, ast.ImportFrom) and node in tree.body for node in rows), path.name)
            found[path.stem] = rows
        return found

    def test_from_the_file_that_defines_the_name(self):
        defined = {}
        for path, tree in trees():
            defined[path.stem] = [
                name for node in tree.body if not isinstance(node, ast.ImportFrom)
                for name in bound_at_top(ast.Module(body=[node], type_ignores=[]))
            ]
        for stem, rows in self.drawn().items():
            for node in rows:
                self.assertEqual(node.level, 0)
                package, name = node.module.split(".")
                self.assertEqual(package, "oneslate")
                for alias in node.names:
                    self.assertIsNone(alias.asname)
                    self.assertIn(alias.name, defined[name], f"{stem} from {name}")

    def test_no_two_files_draw_from_one_another(self):
        left = {stem: {node.module.split(".")[1] for node in rows} for stem, rows in self.drawn().items()}
        while left:
            free = [stem for stem in left if not left[stem] & set(left)]
            self.assertNotEqual(free, [], f"a ring among {sorted(left)}")
            for stem in free:
                del left[stem]

    def test_nothing_is_drawn_for_nothing(self):
        for path, tree in trees():
            used = {node.id for node in ast.walk(tree) if isinstance(node, ast.Name)}
            for node in tree.body:
                if isinstance(node, ast.ImportFrom):
                    self.assertEqual([alias.name for alias in node.names if alias.name not in used], [], path.name)


class NodesTest(unittest.TestCase):

    def test_nodes(self):
        for path, tree in trees():
            for node in ast.walk(tree):
                self.assertIn(type(node).__name__, NODES, where(path, node) if hasattr(node, "lineno") else path.name)

    def test_assignments_have_one_target(self):
        for path, node in nodes_of(ast.Assign):
            self.assertEqual(len(node.targets), 1, where(path, node))
            self.assertIsInstance(node.targets[0], (ast.Name, ast.Attribute, ast.Subscript), where(path, node))

    def test_loops_and_tries_end_plainly(self):
        for path, node in nodes_of((ast.For, ast.While)):
            self.assertEqual(node.orelse, [], where(path, node))
        for path, node in nodes_of(ast.Try):
            self.assertEqual(node.finalbody, [], where(path, node))
            for handler in node.handlers:
                self.assertIsInstance(handler.type, ast.Name, where(path, node))
                self.assertNotIn(handler.type.id, ("Exception", "TypeError", "ValueError"), where(path, node))

    def test_raises_make_their_error_on_the_spot(self):
        for path, node in nodes_of(ast.Raise):
            self.assertIsInstance(node.exc, ast.Call, where(path, node))

    def test_constants(self):
        for path, node in nodes_of(ast.Constant):
            self.assertIsInstance(node.value, (int, str, type(None)), where(path, node))
            if isinstance(node.value, str):
                self.assertNotIn("%", node.value, where(path, node))

    def test_powers_have_a_written_exponent(self):
        for path, node in nodes_of(ast.BinOp):
            if isinstance(node.op, ast.Pow):
                self.assertIsInstance(node.right, ast.Constant, where(path, node))
                self.assertIn(node.right.value, range(65), where(path, node))

    def test_is_stands_beside_none_and_truths(self):
        for path, node in nodes_of(ast.Compare):
            for op, right in zip(node.ops, node.comparators):
                if isinstance(op, (ast.Is, ast.IsNot)):
                    self.assertIsInstance(right, ast.Constant, where(path, node))
                    self.assertIn(right.value, (None, True, False), where(path, node))

    def test_comprehensions_have_one_for_and_at_most_one_if(self):
        for path, node in nodes_of(ast.ListComp):
            self.assertEqual(len(node.generators), 1, where(path, node))
            self.assertLessEqual(len(node.generators[0].ifs), 1, where(path, node))

    def test_expressions_that_stand_alone_are_calls(self):
        for path, node in nodes_of(ast.Expr):
            told = isinstance(node.value, ast.Constant) and isinstance(node.value.value, str)
            self.assertTrue(told or isinstance(node.value, ast.Call), where(path, node))

    def test_texts_with_braces_hold_plain_names(self):
        for path, node in nodes_of(ast.FormattedValue):
            self.assertIsInstance(node.value, ast.Name, path.name)
            self.assertIsNone(node.format_spec, path.name)

    def test_walked_at_once(self):
        walked = set()
        for path, node in nodes_of((ast.For, ast.comprehension)):
            walked.add((path, ast.unparse(node.iter)))
        for path, node in nodes_of(ast.Call):
            for arg in node.args:
                walked.add((path, ast.unparse(arg)))
        for path, node in nodes_of(ast.Call):
            name = node.func.id if isinstance(node.func, ast.Name) else node.func.attr
            if name in ("zip", "enumerate", "reversed", "range", "items", "keys", "values"):
                self.assertIn((path, ast.unparse(node)), walked, where(path, node))
            self.assertNotIn(name, ("set", "frozenset", "chr"), where(path, node))

    def test_parameters_are_plain(self):
        for path, node in nodes_of(ast.FunctionDef):
            args = node.args
            others = [args.vararg, args.kwarg, *args.kwonlyargs, *args.posonlyargs]
            self.assertEqual([one for one in others if one is not None], [], where(path, node))
            self.assertEqual(node.decorator_list, [], where(path, node))
            self.assertTrue(all(isinstance(one, ast.Constant) for one in args.defaults), where(path, node))
            self.assertIsNone(node.returns, where(path, node))
            self.assertTrue(all(arg.annotation is None for arg in args.args), where(path, node))


class NamesTest(unittest.TestCase):

    def test_names_are_plain(self):
        for path, tree in trees():
            for node in ast.walk(tree):
                for name in self.names_in(node):
                    self.assertRegex(name, r"^([A-Za-z][A-Za-z0-9_]*|__init__)$", path.name)
                    self.assertNotIn(name, NAMES_NOWHERE, path.name)

    def names_in(self, node):
        found = [getattr(node, field, None) for field in ("id", "attr", "arg", "name")]
        return [name for name in found if isinstance(name, str)]

    def test_pythons_own_names(self):
        for path, tree in trees():
            known = set(bound_at_top(tree)) | OWN_NAMES
            for node in ast.walk(tree):
                if isinstance(node, (ast.FunctionDef, ast.Lambda)):
                    known |= bound_within(node)
            for node in ast.walk(tree):
                if isinstance(node, ast.Name) and isinstance(node.ctx, ast.Load):
                    self.assertIn(node.id, known, where(path, node))

    def test_no_parameter_or_local_hides_another_name(self):
        for path, tree in trees():
            taken = set(bound_at_top(tree)) | set(dir(builtins))
            for node in ast.walk(tree):
                if isinstance(node, (ast.FunctionDef, ast.Lambda)):
                    self.assertEqual(bound_within(node) & taken, set(), where(path, node))

    def test_isinstance_of_plain_kinds(self):
        for path, node in nodes_of(ast.Call):
            if isinstance(node.func, ast.Name) and node.func.id == "isinstance":
                self.assertIn(node.args[1].id, KINDS_ASKED, where(path, node))

    def test_keywords(self):
        for path, node in nodes_of(ast.Call):
            for keyword in node.keywords:
                self.assertIn(keyword.arg, ("key", "reverse", "default", "start", "strict"), where(path, node))


class ClassesTest(unittest.TestCase):

    def test_no_name_is_a_method_and_a_value(self):
        methods = set()
        values = set()
        for path, node in nodes_of(ast.ClassDef):
            self.assertEqual(node.decorator_list, [], where(path, node))
            self.assertLessEqual(len(node.bases), 1, where(path, node))
            rows = node.body[1:] if ast.get_docstring(node) else node.body
            self.assertTrue(all(isinstance(row, ast.FunctionDef) for row in rows), where(path, node))
            names = [row.name for row in rows]
            self.assertEqual(len(names), len(set(names)), where(path, node))
            methods |= set(names)
        for path, node in nodes_of(ast.Attribute):
            if isinstance(node.ctx, ast.Store):
                self.assertEqual(node.value.id, "self", where(path, node))
                values.add(node.attr)
        self.assertEqual(methods & values, set())
        taken = set()
        for kind in (str, int, list, dict, set, bytes, tuple):
            taken |= {name for name in dir(kind) if not name.startswith("__")}
        self.assertEqual((methods | values) & taken, set())
        self.check_called(methods)

    def check_called(self, methods):
        for path, node in nodes_of(ast.Call):
            if isinstance(node.func, ast.Attribute):
                self.assertIn(node.func.attr, methods | OWN_METHODS, where(path, node))


if __name__ == "__main__":
    unittest.main()
