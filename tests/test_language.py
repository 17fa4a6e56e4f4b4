"""The form of the package: what can be seen of the rules of LANGUAGE.md by reading its files.

Where a rule allows a thing only under conditions that are hard to see, this test does not allow it at all.
"""

import ast
import builtins
import pathlib
import re
import unittest

FOLDER = pathlib.Path(__file__).resolve().parent.parent / "runcolumns"
FILES = {path.stem: path.read_text(encoding="utf-8") for path in sorted(FOLDER.glob("*.py"))}
TREES = {name: ast.parse(text) for name, text in FILES.items()}

NODES = set("""
Module Expr Constant ImportFrom alias FunctionDef ClassDef arguments arg Return Assign AugAssign If While For Continue
Raise With withitem Name Attribute Call keyword Subscript Slice Tuple List Dict ListComp SetComp DictComp comprehension
Lambda IfExp JoinedStr FormattedValue Compare BoolOp UnaryOp BinOp Load Store Add Sub Mult FloorDiv Mod BitAnd And Or Not USub
Eq NotEq Lt LtE Gt GtE In NotIn Is IsNot
""".split())
BUILTINS = set("""
len range enumerate zip min max sum abs sorted reversed int str bool list tuple dict set isinstance any all super
property ValueError TypeError
""".split())
METHODS = set("append copy count extend get index insert items join keys partition pop remove split values".split())
LIBRARY = {"comb", "gcd"}
DOUBLE = {"__init__", "__eq__", "__len__", "__enter__", "__exit__", "__iter__", "__getitem__"}
BARRED_NAMES = set("""
register mro elements open input law version_info with_traceback add_note attrgetter breakpoint builtins compile
copyright credits delattr dir eval exec exit gc globals help id importlib license locals methodcaller os quit
vars sys iter next map format format_map args
""".split())
BARRED_WORDS = re.compile(
    r"\b(type|typing|typing_extensions|enum|Enum|IntEnum|StrEnum|Flag|IntFlag|Generic|Protocol|ABC|ABCMeta|namedtuple"
    r"|NamedTuple|TypedDict|TYPE_CHECKING|abstractmethod)\b|dataclass|overload|contextmanager|\(type\)|Meta|metaclass="
    r"|_wall|_WallAttr")


def functions():
    for name, tree in TREES.items():
        for node in ast.walk(tree):
            if isinstance(node, ast.FunctionDef):
                yield name, node


def nodes(*kinds):
    for name, tree in TREES.items():
        for node in ast.walk(tree):
            if isinstance(node, kinds):
                yield name, node


def bound_in(node):
    """All names that are bound somewhere below a node, parameters included."""
    found = set()
    for inner in ast.walk(node):
        if isinstance(inner, ast.Name) and isinstance(inner.ctx, ast.Store):
            found.add(inner.id)
        elif isinstance(inner, ast.arg):
            found.add(inner.arg)
    return found


def defined_in(tree):
    """All names that a file binds at module level."""
    found = []
    for node in tree.body:
        if isinstance(node, (ast.FunctionDef, ast.ClassDef)):
            found.append(node.name)
        elif isinstance(node, ast.Assign):
            found.append(node.targets[0].id)
        elif isinstance(node, ast.ImportFrom):
            found += [alias.name for alias in node.names]
    return found


TAKES = {"list", "tuple", "dict", "sorted", "sum", "any", "all", "enumerate", "zip", "min", "max"}
TAKES_RANGES = TAKES | {"len", "reversed"}


def is_call(node, names):
    return isinstance(node, ast.Call) and isinstance(node.func, ast.Name) and node.func.id in names


def is_iterated(node):
    """Whether this is a range, a zip, a view or the like."""
    if isinstance(node, ast.Call) and isinstance(node.func, ast.Attribute):
        return node.func.attr in ("items", "values", "keys") and not node.args
    return is_call(node, {"range", "zip", "enumerate", "reversed"})


def is_kept_range(node, above):
    return is_call(node, {"range"}) and isinstance(above[node], ast.Assign) and above[node].value is node


class FilesTest(unittest.TestCase):

    def test_folder(self):
        names = [path.name for path in FOLDER.iterdir() if path.name != "__pycache__"]
        self.assertTrue(all(re.fullmatch(r"[a-z][a-z0-9_]*\.py|__init__\.py", name) for name in names), names)

    def test_characters_and_sizes(self):
        for name, text in FILES.items():
            self.assertTrue(all(sign == "\n" or " " <= sign <= "~" for sign in text), name)
            self.assertLessEqual(len(text.split("\n")), 399, name)
            self.assertLessEqual(max(len(line) for line in text.split("\n")), 120, name)
        for name, node in functions():
            self.assertLessEqual(node.end_lineno - node.lineno + 1, 40, f"{name}.{node.name}")

    def test_barred_words(self):
        for name, text in FILES.items():
            self.assertIsNone(BARRED_WORDS.search(text), name)

    def test_imports(self):
        for name, node in nodes(ast.ImportFrom):
            self.assertIn(node, TREES[name].body)
            self.assertEqual(node.level, 0)
            package, _, file = node.module.partition(".")
            for alias in node.names:
                self.assertIsNone(alias.asname)
                if node.module == "math":
                    self.assertIn(alias.name, LIBRARY)
                    continue
                self.assertEqual(package, "runcolumns")
                own = [held for held in TREES[file].body if not isinstance(held, ast.ImportFrom)]
                self.assertIn(alias.name, defined_in(ast.Module(own, [])), f"{name} imports {alias.name}")
                used = [held for held in ast.walk(TREES[name]) if isinstance(held, ast.Name) and held.id == alias.name]
                self.assertTrue(used, f"{name} does not use {alias.name}")

    def test_no_ring_of_imports(self):
        needs = {name: set() for name in FILES}
        for name, node in nodes(ast.ImportFrom):
            if node.module != "math":
                needs[name].add(node.module.partition(".")[2])
        while needs:
            free = [name for name in needs if not needs[name] & set(needs)]
            self.assertTrue(free, f"these import each other: {sorted(needs)}")
            for name in free:
                del needs[name]

    def test_module_level(self):
        for name, tree in TREES.items():
            for at, node in enumerate(tree.body):
                if isinstance(node, ast.Expr):
                    self.assertTrue(at == 0 and isinstance(node.value, ast.Constant), name)
                elif isinstance(node, ast.Assign):
                    self.assertIsInstance(node.targets[0], ast.Name)
                    ast.literal_eval(node.value)
                else:
                    self.assertIsInstance(node, (ast.ImportFrom, ast.FunctionDef, ast.ClassDef), name)
            names = defined_in(tree)
            self.assertEqual(len(names), len(set(names)), f"{name} binds a name twice")


class NamesTest(unittest.TestCase):

    def test_words_of_the_language(self):
        for name, tree in TREES.items():
            for node in ast.walk(tree):
                self.assertIn(type(node).__name__, NODES, f"{name}, line {getattr(node, 'lineno', '?')}")

    def test_builtins(self):
        for name, node in nodes(ast.Name):
            if isinstance(node.ctx, ast.Load) and hasattr(builtins, node.id):
                self.assertIn(node.id, BUILTINS, f"{name}, line {node.lineno}")

    def test_nothing_has_the_name_of_a_builtin(self):
        for name, tree in TREES.items():
            # A doctest that was run before gives the builtins a name _ for a while.
            for bound in (bound_in(tree) | set(defined_in(tree))) - {"_"}:
                self.assertFalse(hasattr(builtins, bound), f"{name}: {bound}")

    def test_locals_have_no_name_of_an_import_or_class(self):
        for name, tree in TREES.items():
            barred = {alias.name for node in tree.body if isinstance(node, ast.ImportFrom) for alias in node.names}
            barred |= {node.name for node in tree.body if isinstance(node, ast.ClassDef)}
            for node in tree.body:
                if isinstance(node, (ast.FunctionDef, ast.ClassDef)):
                    self.assertFalse(bound_in(node) & barred, f"{name}.{node.name}")

    def test_plain_names(self):
        for name, tree in TREES.items():
            found = bound_in(tree) | {node.attr for node in ast.walk(tree) if isinstance(node, ast.Attribute)}
            found |= {node.name for node in ast.walk(tree) if isinstance(node, (ast.FunctionDef, ast.ClassDef))}
            for word in found - DOUBLE - {"_"}:
                self.assertRegex(word, r"^_?[A-Za-z][A-Za-z0-9_]*$", name)
                self.assertNotIn(word, BARRED_NAMES, name)

    def test_methods_of_builtin_values(self):
        own = {node.name for name, node in functions()}
        for name, node in nodes(ast.Call):
            if isinstance(node.func, ast.Attribute) and node.func.attr not in own | {"__init__"}:
                self.assertIn(node.func.attr, METHODS, f"{name}, line {node.lineno}")

    def test_double_underscores_and_decorators(self):
        for name, node in functions():
            if node.name.startswith("__"):
                self.assertIn(node.name, DOUBLE, name)
            for decorator in node.decorator_list:
                self.assertEqual(decorator.id, "property", f"{name}.{node.name}")
        for name, node in nodes(ast.ClassDef):
            self.assertFalse(node.decorator_list)
            self.assertTrue(all(isinstance(held, (ast.FunctionDef, ast.Expr)) for held in node.body), name)

    def test_no_name_is_method_and_attribute_of_one_class(self):
        for name, node in nodes(ast.ClassDef):
            methods = {held.name for held in node.body if isinstance(held, ast.FunctionDef)}
            attributes = {
                held.attr for held in ast.walk(node) if isinstance(held, ast.Attribute) and isinstance(held.ctx, ast.Store)
            }
            self.assertFalse(methods & attributes, f"{name}.{node.name}")


class UsesTest(unittest.TestCase):

    def test_equality_has_one_form(self):
        for name, node in functions():
            if node.name == "__eq__":
                self.assertEqual(len(node.body), 1, name)
                text = ast.unparse(node.body[0].value)
                self.assertRegex(text, r"^isinstance\(other, \w+\) and self\.\w+ == other\.\w+|^self is other$", name)

    def test_is(self):
        for name, node in nodes(ast.Compare):
            if isinstance(node.ops[0], (ast.Is, ast.IsNot)):
                words = ast.unparse(node)
                self.assertTrue(words.endswith((" None", " True", " False")) or words == "self is other", words)

    def test_sets_are_sorted_or_counted_at_once(self):
        allowed = set()
        for name, node in nodes(ast.Call):
            if isinstance(node.func, ast.Name) and node.func.id in ("sorted", "len") and not node.keywords:
                allowed.add(id(node.args[0]))
        for name, node in nodes(ast.Call, ast.SetComp):
            if isinstance(node, ast.SetComp) or isinstance(node.func, ast.Name) and node.func.id == "set":
                self.assertIn(id(node), allowed, f"{name}, line {node.lineno}")

    def test_raised_errors_are_created_on_the_spot(self):
        for name, node in nodes(ast.Raise):
            self.assertIsInstance(node.exc, ast.Call, f"{name}, line {node.lineno}")
            self.assertRegex(node.exc.func.id, r"^[A-Z]")

    def test_strings(self):
        for name, node in nodes(ast.Constant):
            if isinstance(node.value, str):
                self.assertNotIn("%", node.value, name)
                self.assertNotIn("\\", node.value, name)

    def test_what_is_iterated_over_is_so_at_once(self):
        for name, tree in TREES.items():
            above = {below: node for node in ast.walk(tree) for below in ast.iter_child_nodes(node)}
            for node in ast.walk(tree):
                if is_iterated(node) and not self.is_at_once(node, above[node]):
                    self.assertTrue(is_kept_range(node, above), f"{name}, line {node.lineno}")

    def is_at_once(self, node, parent):
        """Whether a node stands where it is iterated over."""
        if isinstance(parent, (ast.For, ast.comprehension)):
            return parent.iter is node
        if isinstance(parent, ast.Call) and isinstance(parent.func, ast.Name):
            takes = TAKES_RANGES if is_call(node, {"range"}) or isinstance(node, ast.Name) else TAKES
            return parent.func.id in takes and parent.args[0] is node
        return False

    def test_kept_ranges_are_only_iterated_over(self):
        for name, function in functions():
            above = {below: node for node in ast.walk(function) for below in ast.iter_child_nodes(node)}
            stored = [node for node in ast.walk(function) if isinstance(node, ast.Name) and isinstance(node.ctx, ast.Store)]
            for node in stored:
                if isinstance(above[node], ast.Assign) and is_call(above[node].value, {"range"}):
                    self.assertEqual([held.id for held in stored].count(node.id), 1, name)
                    for held in ast.walk(function):
                        if isinstance(held, ast.Name) and held.id == node.id and isinstance(held.ctx, ast.Load):
                            self.assertTrue(self.is_at_once(held, above[held]), f"{name}, line {held.lineno}")

    def test_library_names_are_only_called(self):
        for name, tree in TREES.items():
            above = {below: node for node in ast.walk(tree) for below in ast.iter_child_nodes(node)}
            for node in ast.walk(tree):
                if isinstance(node, ast.Name) and node.id in LIBRARY:
                    self.assertTrue(isinstance(above[node], ast.Call) and above[node].func is node, name)
                    self.assertFalse(above[node].keywords, name)

    def test_exponents(self):
        for name, node in nodes(ast.BinOp):
            self.assertNotIsInstance(node.op, (ast.Pow, ast.Div, ast.LShift), f"{name}, line {node.lineno}")

    def test_loops_do_not_change_what_they_go_over(self):
        for name, loop in nodes(ast.For):
            over = {ast.unparse(node) for node in ast.walk(loop.iter) if isinstance(node, (ast.Name, ast.Attribute))}
            for node in ast.walk(loop):
                if isinstance(node, ast.Call) and isinstance(node.func, ast.Attribute):
                    if node.func.attr in ("append", "extend", "insert", "pop", "remove"):
                        self.assertNotIn(ast.unparse(node.func.value), over, f"{name}, line {node.lineno}")
                if isinstance(node, ast.Subscript) and isinstance(node.ctx, ast.Store):
                    self.assertNotIn(ast.unparse(node.value), over, f"{name}, line {node.lineno}")


if __name__ == "__main__":
    unittest.main()
