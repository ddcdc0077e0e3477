"""The package keeps to the part of Python it is written in: the rules that can be seen in a file by itself."""

import ast
import builtins
import pathlib
import re
import unittest

PACKAGE = pathlib.Path(__file__).resolve().parent.parent / "paidspan"

# L6, L7: what stands in a file is of these forms.
NODES = """Module Import ImportFrom alias FunctionDef Lambda arguments arg ClassDef Return Assign AugAssign For While If
Raise Try ExceptHandler Expr Pass Break Continue BoolOp BinOp UnaryOp IfExp Dict Set List Tuple ListComp comprehension
Compare Call keyword JoinedStr FormattedValue Constant Attribute Subscript Slice Name Load Store And Or Not Add Sub Mult
FloorDiv Mod Pow LShift RShift BitOr BitXor BitAnd USub UAdd Invert Eq NotEq Lt LtE Gt GtE Is IsNot In NotIn""".split()

# L8: Python's own names, those of L22's and L27's limits left out.
OWN_NAMES = """len range enumerate zip min max sum abs sorted reversed int str bool list tuple dict set frozenset isinstance
ord repr any all divmod Exception ValueError TypeError KeyError IndexError LookupError ZeroDivisionError ArithmeticError
OverflowError RuntimeError NotImplementedError AttributeError StopIteration""".split()

# L5, L8: the names with two underscores.
DUNDERS = "__init__ __eq__ __repr__ __str__ __len__ __all__ __version__ __name__".split()

# L25: the methods of Python's own values.
METHODS = """append clear copy count endswith extend find get index insert isalnum isalpha isdigit islower isspace isupper
items join keys ljust lower lstrip partition pop remove replace reverse rfind rjust rpartition rsplit rstrip setdefault
split splitlines startswith strip update upper values zfill bit_length""".split()

# L17: words that stand nowhere in a file, and names that are not used.
WORDS = """type typing typing_extensions enum Enum IntEnum StrEnum Flag IntFlag Generic Protocol ABC ABCMeta namedtuple
NamedTuple TypedDict TYPE_CHECKING abstractmethod""".split()
PARTS_OF_WORDS = "dataclass overload contextmanager".split()
UNUSED = """register mro elements open input version_info with_traceback add_note attrgetter breakpoint builtins compile
copyright credits delattr dir eval exec exit gc getattr globals hasattr help id importlib license locals methodcaller os
quit setattr super sys vars format format_map""".split()

# L26: methods and values of an object that may be called like one of Python's own values' methods.
FREE_METHODS = METHODS + ["add", "discard"]
FREE_VALUES = "count index title find get join lower upper split strip copy add".split()

# L22: the keywords with which Python's own are called.
KEYWORDS = {"sorted": ["key", "reverse"], "min": ["key", "default"], "max": ["key", "default"], "sum": ["start"],
            "enumerate": ["start"], "zip": ["strict"]}

# L23: what is walked on the spot, and what walks it.
WALKED = "zip enumerate reversed range".split()
WALKED_METHODS = "items keys values".split()
WALKERS = "list tuple dict sorted sum any all enumerate zip min max".split()

OWN_ERRORS_TAKEN = "KeyError ZeroDivisionError StopIteration ValueError LookupError IndexError".split()


def files():
    return sorted(PACKAGE.rglob("*.py"))


def tree_of(path):
    return ast.parse(path.read_text(encoding="utf-8"), str(path))


def nodes_of(path, *kinds):
    return [node for node in ast.walk(tree_of(path)) if isinstance(node, kinds)]


def names_bound_at_top(path):
    names = []
    for row in tree_of(path).body:
        if isinstance(row, (ast.FunctionDef, ast.ClassDef)):
            names.append(row.name)
        if isinstance(row, ast.Assign):
            names += [target.id for target in row.targets if isinstance(target, ast.Name)]
        if isinstance(row, ast.ImportFrom):
            names += [name.asname or name.name for name in row.names]
    return names


def names_of(path):
    found = [node.id for node in nodes_of(path, ast.Name)]
    found += [node.arg for node in nodes_of(path, ast.arg)]
    found += [node.attr for node in nodes_of(path, ast.Attribute)]
    found += [node.name for node in nodes_of(path, ast.FunctionDef, ast.ClassDef)]
    return found


class Files(unittest.TestCase):
    def test_one_folder_of_plain_files(self):
        for path in PACKAGE.rglob("*"):
            if path.name == "__pycache__" or path.parent.name == "__pycache__":
                continue
            self.assertTrue(path.is_file(), path)
            self.assertRegex(path.name, r"\A([a-z][a-z0-9_]*|__init__|__main__)\.py\Z")
            self.assertFalse(path.name.startswith("test") or path.stem in dir(builtins), path)
        self.assertTrue((PACKAGE / "__init__.py").is_file())

    def test_signs_and_sizes(self):
        for path in files():
            text = path.read_bytes().decode("ascii")
            self.assertRegex(text, r"\A[ -~\n]*\Z", path)
            rows = text.split("\n")
            self.assertLessEqual(len(rows), 400, path)
            for row in rows:
                self.assertLessEqual(len(row), 120, (path, row))
            for node in nodes_of(path, ast.FunctionDef):
                self.assertLessEqual(node.end_lineno - node.lineno + 1, 40, (path, node.name))

    def test_words_that_stand_nowhere(self):
        for path in files():
            text = path.read_text()
            for word in WORDS:
                self.assertIsNone(re.search(rf"\b{word}\b", text), (path, word))
            for part in PARTS_OF_WORDS:
                self.assertNotIn(part, text, path)


class Forms(unittest.TestCase):
    def test_only_these_forms(self):
        for path in files():
            for node in ast.walk(tree_of(path)):
                self.assertIn(node.__class__.__name__, NODES, (path, getattr(node, "lineno", 0)))

    def test_the_top_of_a_file(self):
        allowed = (ast.ImportFrom, ast.FunctionDef, ast.ClassDef, ast.Assign)
        for path in files():
            body = tree_of(path).body
            self.assertIsNotNone(ast.get_docstring(tree_of(path)), path)
            for row in body[1:]:
                self.assertIsInstance(row, allowed, (path, row.lineno))
            names = names_bound_at_top(path)
            self.assertEqual(len(names), len(set(names)), path)

    def test_functions_and_classes(self):
        for path in files():
            for node in nodes_of(path, ast.FunctionDef, ast.Lambda):
                given = node.args
                self.assertFalse(given.vararg or given.kwarg or given.kwonlyargs or given.posonlyargs, path)
                self.assertFalse(getattr(node, "decorator_list", []), path)
                self.assertIsNone(getattr(node, "returns", None), path)
            for node in nodes_of(path, ast.arg):
                self.assertIsNone(node.annotation, path)
            for node in nodes_of(path, ast.ClassDef):
                self.assertLessEqual(len(node.bases), 1, node.name)
                self.assertFalse(node.decorator_list or node.keywords, node.name)
                self.assertTrue(all(isinstance(row, ast.FunctionDef) for row in node.body[1:]), node.name)

    def test_statements(self):
        for path in files():
            for node in nodes_of(path, ast.Assign):
                self.assertEqual(len(node.targets), 1, (path, node.lineno))
            for node in nodes_of(path, ast.For, ast.While):
                self.assertFalse(node.orelse, (path, node.lineno))
            for node in nodes_of(path, ast.Try):
                self.assertFalse(node.finalbody, (path, node.lineno))
            for node in nodes_of(path, ast.ListComp):
                self.assertEqual(len(node.generators), 1, (path, node.lineno))
                self.assertLessEqual(len(node.generators[0].ifs), 1, (path, node.lineno))

    def test_errors_that_are_taken(self):
        for path in files():
            for node in nodes_of(path, ast.ExceptHandler):
                self.assertIsNotNone(node.type, (path, node.lineno))
                for name in ast.walk(node.type):
                    if isinstance(name, ast.Name) and name.id in dir(builtins):
                        self.assertIn(name.id, OWN_ERRORS_TAKEN, (path, node.lineno))

    def test_values(self):
        for path in files():
            for node in nodes_of(path, ast.Constant):
                self.assertIn(node.value.__class__.__name__, ("int", "str", "bool", "NoneType"), (path, node.lineno))
                if isinstance(node.value, str):
                    self.assertNotIn("%", node.value, (path, node.lineno))
            for node in nodes_of(path, ast.FormattedValue):
                self.assertIsInstance(node.value, ast.Name, (path, node.lineno))
                self.assertIsNone(node.format_spec, (path, node.lineno))
            for node in nodes_of(path, ast.BinOp):
                if isinstance(node.op, ast.Pow):
                    self.assertIsInstance(node.right, ast.Constant, (path, node.lineno))
            for node in nodes_of(path, ast.Compare):
                for op, right in zip(node.ops, node.comparators):
                    if isinstance(op, (ast.Is, ast.IsNot)):
                        self.assertIsInstance(right, ast.Constant, (path, node.lineno))


def called(node):
    """The name by which a call calls, where it is a plain one."""
    return node.func.id if isinstance(node, ast.Call) and isinstance(node.func, ast.Name) else None


class Calls(unittest.TestCase):
    def test_keywords_of_python_own_names(self):
        for path in files():
            for node in nodes_of(path, ast.Call):
                if isinstance(node.func, ast.Attribute) or called(node) in OWN_NAMES:
                    for word in node.keywords:
                        self.assertIn(word.arg, KEYWORDS.get(called(node), []), (path, node.lineno))

    def test_python_own_names_are_called(self):
        for path in files():
            tree = tree_of(path)
            calling = [node.func for node in ast.walk(tree) if isinstance(node, ast.Call)]
            named = [name for node in ast.walk(tree) for name in self.places_of_kinds(node)]
            for node in ast.walk(tree):
                if isinstance(node, ast.Name) and node.id in OWN_NAMES:
                    self.assertIn(node, calling + named, (path, node.lineno))

    def places_of_kinds(self, node):
        """Where kinds and error classes may stand without a call."""
        if called(node) == "isinstance":
            return list(ast.walk(node.args[1]))
        if isinstance(node, ast.ClassDef):
            return node.bases
        if isinstance(node, ast.ExceptHandler):
            return list(ast.walk(node.type))
        if isinstance(node, ast.keyword) and node.arg == "key":
            return [node.value]
        return []

    def test_walked_on_the_spot(self):
        for path in files():
            tree = tree_of(path)
            walked = [node.iter for node in ast.walk(tree) if isinstance(node, (ast.For, ast.comprehension))]
            walked += [node.args[0] for node in ast.walk(tree) if called(node) in WALKERS and node.args]
            walked += [one for node in ast.walk(tree) if called(node) == "zip" for one in node.args]
            for node in ast.walk(tree):
                by_method = isinstance(node, ast.Call) and getattr(node.func, "attr", None) in WALKED_METHODS
                if called(node) in WALKED or by_method:
                    self.assertIn(node, walked, (path, node.lineno))

    def test_sets_stand_straight_within_sorted_or_len(self):
        for path in files():
            tree = tree_of(path)
            within = [node.args[0] for node in ast.walk(tree) if called(node) in ("sorted", "len") and not node.keywords]
            for node in ast.walk(tree):
                self.assertNotIsInstance(node, ast.Set, (path, getattr(node, "lineno", 0)))
                if called(node) in ("set", "frozenset"):
                    self.assertIn(node, within, (path, node.lineno))


class Names(unittest.TestCase):
    def test_plain_names(self):
        for path in files():
            for name in names_of(path):
                if name not in DUNDERS:
                    self.assertRegex(name, r"\A[A-Za-z][A-Za-z0-9_]*\Z", path)
                self.assertNotIn(name, UNUSED, path)

    def test_python_own_names(self):
        for path in files():
            for node in nodes_of(path, ast.Name):
                if node.id in dir(builtins):
                    self.assertIn(node.id, OWN_NAMES, (path, node.lineno))
                    self.assertIsInstance(node.ctx, ast.Load, (path, node.lineno))
            for node in nodes_of(path, ast.arg):
                self.assertNotIn(node.arg, dir(builtins), (path, node.lineno))

    def test_methods(self):
        own = []
        for path in files():
            for node in nodes_of(path, ast.ClassDef):
                own += [row.name for row in node.body if isinstance(row, ast.FunctionDef)]
        for path in files():
            for node in nodes_of(path, ast.Call):
                if isinstance(node.func, ast.Attribute):
                    self.assertIn(node.func.attr, METHODS + own, (path, node.lineno))

    def test_locals_are_not_called_like_a_class_or_an_import(self):
        for path in files():
            rows = tree_of(path).body
            taken = [row.name for row in rows if isinstance(row, ast.ClassDef)]
            taken += [name.asname or name.name for row in rows if isinstance(row, ast.ImportFrom) for name in row.names]
            given = [node.id for node in nodes_of(path, ast.Name) if isinstance(node.ctx, ast.Store)]
            given += [node.arg for node in nodes_of(path, ast.arg)]
            self.assertEqual([name for name in given if name in taken], [], path)

    def test_methods_and_values_of_objects(self):
        methods, values = [], []
        for path in files():
            for node in nodes_of(path, ast.ClassDef):
                names = [row.name for row in node.body if isinstance(row, ast.FunctionDef)]
                self.assertEqual(len(names), len(set(names)), (path, node.name))
                methods += [name for name in names if name not in DUNDERS]
            values += [node.attr for node in nodes_of(path, ast.Attribute) if isinstance(node.ctx, ast.Store)]
        own = [name for kind in (str, int, list, tuple, dict, set, bytes, ValueError) for name in dir(kind)]
        self.assertEqual([name for name in methods if name in values], [])
        self.assertEqual([name for name in methods if name in own and name not in FREE_METHODS], [])
        self.assertEqual([name for name in values if name in own and name not in FREE_VALUES], [])


class Imports(unittest.TestCase):
    def drawn_from(self, path):
        drawn = []
        for node in nodes_of(path, ast.ImportFrom):
            self.assertEqual(node.level, 0, path)
            self.assertRegex(node.module, r"\Apaidspan\.[a-z][a-z0-9_]*\Z", path)
            drawn.append((PACKAGE / (node.module.split(".")[1] + ".py"), [name.name for name in node.names]))
        self.assertEqual(nodes_of(path, ast.Import), [], path)
        return drawn

    def test_from_the_very_file_that_defines_the_name(self):
        for path in files():
            for source, names in self.drawn_from(path):
                imported = [name.name for node in nodes_of(source, ast.ImportFrom) for name in node.names]
                for name in names:
                    self.assertIn(name, names_bound_at_top(source), path)
                    self.assertNotIn(name, imported, path)

    def test_no_two_files_draw_from_one_another(self):
        left = {path: [source for source, names in self.drawn_from(path)] for path in files()}
        while left:
            free = [path for path in left if not any(source in left for source in left[path])]
            self.assertTrue(free, sorted(left))
            for path in free:
                left.pop(path)


if __name__ == "__main__":
    unittest.main()
