"""Holds the package's files against those rules of its language that can be seen in the text."""

import ast
import builtins
import re
import unittest
from pathlib import Path

PACKAGE = Path(__file__).resolve().parent.parent / "castoff"

OWN_NAMES = set("""
    len range enumerate zip min max sum abs sorted reversed int str bool list tuple dict set frozenset isinstance ord
    repr any all divmod Exception ValueError TypeError KeyError IndexError LookupError ZeroDivisionError
    ArithmeticError OverflowError RuntimeError NotImplementedError AttributeError StopIteration
""".split())
OWN_METHODS = set("""
    append clear copy count endswith extend find get index insert isalnum isalpha isdigit islower isspace isupper items
    join keys ljust lower lstrip partition pop remove replace reverse rfind rjust rpartition rsplit rstrip setdefault
    split splitlines startswith strip update upper values zfill bit_length
""".split())
UNDERSCORED = {"__init__", "__eq__", "__repr__", "__str__", "__len__"}
NODES = {
    ast.Module, ast.ImportFrom, ast.alias, ast.FunctionDef, ast.ClassDef, ast.arguments, ast.arg, ast.Assign,
    ast.AugAssign, ast.If, ast.While, ast.For, ast.Return, ast.Break, ast.Continue, ast.Pass, ast.Raise, ast.Try,
    ast.ExceptHandler, ast.Expr, ast.Name, ast.Load, ast.Store, ast.Constant, ast.List, ast.Tuple, ast.Dict, ast.Set,
    ast.BinOp, ast.UnaryOp, ast.BoolOp, ast.Compare, ast.IfExp, ast.Call, ast.keyword, ast.Attribute, ast.Subscript,
    ast.Slice, ast.ListComp, ast.comprehension, ast.JoinedStr, ast.FormattedValue, ast.Lambda, ast.Add, ast.Sub,
    ast.Mult, ast.FloorDiv, ast.Mod, ast.Pow, ast.BitAnd, ast.BitOr, ast.BitXor, ast.LShift, ast.RShift, ast.Invert,
    ast.USub, ast.UAdd, ast.Not, ast.And, ast.Or, ast.Eq, ast.NotEq, ast.Lt, ast.LtE, ast.Gt, ast.GtE, ast.Is,
    ast.IsNot, ast.In, ast.NotIn,
}
BANNED_WORDS = set("""
    type typing typing_extensions enum Enum IntEnum StrEnum Flag IntFlag Generic Protocol ABC ABCMeta namedtuple
    NamedTuple TypedDict TYPE_CHECKING abstractmethod
""".split())
BANNED_PARTS = ("dataclass", "overload", "contextmanager")
BANNED_NAMES = set("""
    register mro elements open input version_info with_traceback add_note format format_map attrgetter breakpoint
    builtins compile copyright credits delattr dir eval exec exit gc getattr globals hasattr help id importlib license
    locals methodcaller os quit setattr super type vars sys chr print
""".split())
BANNED_VALUES = set("""
    items keys values pop update append clear extend insert remove reverse setdefault sort args encode format
""".split())
BANNED_FILES = {"test", "tests", "testing", "site", "conftest", "sitecustomize", "usercustomize"} | BANNED_WORDS
TEXT_VALUES = {name for kind in (str, int, list, dict, set, bytes, tuple) for name in vars(kind)}
WALKED = {"zip", "enumerate", "reversed", "range"}
WALKED_METHODS = {"items", "keys", "values"}
WALKERS = {"list", "tuple", "dict", "sorted", "sum", "any", "all", "enumerate", "zip", "min", "max"}
CHANGING = {"append", "clear", "extend", "insert", "pop", "remove", "reverse", "setdefault", "update"}
KEYWORDS = {
    "sorted": {"key", "reverse"}, "min": {"key", "default"}, "max": {"key", "default"}, "sum": {"start"},
    "enumerate": {"start"}, "zip": {"strict"},
}
KEYS = {"len", "int", "str", "abs", "sum", "min", "max", "tuple"}
FREE_VALUES = {"count", "index", "title", "find", "get", "join", "lower", "upper", "split", "strip", "copy", "add"}


def module_of(path):
    return "castoff" if path.stem == "__init__" else f"castoff.{path.stem}"


def bound_at_top(tree):
    names = []
    for row in tree.body:
        if isinstance(row, (ast.FunctionDef, ast.ClassDef)):
            names.append(row.name)
        elif isinstance(row, ast.Assign):
            names.extend(target.id for target in row.targets)
        elif isinstance(row, ast.ImportFrom):
            names.extend(part.asname or part.name for part in row.names)
    return names


def walked(tree, *kinds):
    return [node for node in ast.walk(tree) if isinstance(node, kinds)]


def called(node):
    """The name or method that a call calls, the empty text for anything else."""
    if not isinstance(node, ast.Call):
        return ""
    return node.func.id if isinstance(node.func, ast.Name) else node.func.attr


def walked_here(node, parent):
    """Whether the parent walks this on the spot."""
    if isinstance(parent, (ast.For, ast.comprehension)):
        return parent.iter is node
    if called(parent) == "join":
        return isinstance(parent.func.value, ast.Constant)
    return called(parent) in WALKERS and isinstance(parent.func, ast.Name) and node in parent.args


def what_is_walked(node):
    """The texts of all that a loop walks, itself or through what walks it."""
    if isinstance(node, ast.Call) and called(node) in WALKED - {"range"}:
        return [text for part in node.args for text in what_is_walked(part)]
    if isinstance(node, ast.Call) and called(node) in WALKED_METHODS:
        return what_is_walked(node.func.value)
    return [ast.unparse(node)] if isinstance(node, (ast.Name, ast.Attribute, ast.Subscript)) else []


class TestLanguage(unittest.TestCase):
    @classmethod
    def setUpClass(cls):
        cls.texts = {path: path.read_bytes().decode("utf-8") for path in sorted(PACKAGE.glob("*.py"))}
        cls.trees = {path: ast.parse(text) for path, text in cls.texts.items()}

    def each(self, *kinds):
        for path, tree in self.trees.items():
            for node in walked(tree, *kinds):
                yield f"{path.name}:{getattr(node, 'lineno', 0)}", node

    def each_with_parent(self, *kinds):
        for path, tree in self.trees.items():
            for parent in ast.walk(tree):
                for node in ast.iter_child_nodes(parent):
                    if isinstance(node, kinds):
                        yield f"{path.name}:{getattr(node, 'lineno', 0)}", node, parent

    def own_methods(self):
        classes = [node for _, node in self.each(ast.ClassDef)]
        return {row.name for node in classes for row in node.body if isinstance(row, ast.FunctionDef)}

    def test_l1_l14_files(self):
        self.assertTrue(self.texts)
        for path in PACKAGE.iterdir():
            if path.name != "__pycache__":
                self.assertRegex(path.name, r"^([a-z][a-z0-9_]*|__init__|__main__)\.py$")
                self.assertNotIn(path.stem, BANNED_FILES | set(vars(builtins)))
                self.assertFalse(path.stem.startswith("test_"))
        self.assertIn(PACKAGE / "__init__.py", self.texts)

    def test_l10_l14_l17_texts(self):
        for path, text in self.texts.items():
            self.assertRegex(text, r"^[ -~\n]*$", path.name)
            self.assertTrue(len(text.splitlines()) <= 400, path.name)
            self.assertTrue(all(len(line) <= 120 for line in text.splitlines()), path.name)
            self.assertFalse(BANNED_WORDS & set(re.findall(r"\w+", text)), path.name)
            for part in BANNED_PARTS:
                self.assertNotIn(part, text, path.name)

    def test_l2_l16_imports(self):
        drawn = {}
        tops = {module_of(path): bound_at_top(tree) for path, tree in self.trees.items()}
        for path, tree in self.trees.items():
            rows = walked(tree, ast.ImportFrom)
            self.assertTrue(all(row in tree.body and row.level == 0 for row in rows), path.name)
            drawn[module_of(path)] = {row.module for row in rows}
            for row in rows:
                imported = [r for r in self.trees if module_of(r) == row.module]
                self.assertEqual(len(imported), 1, row.module)
                own = [n.name for n in self.trees[imported[0]].body if isinstance(n, (ast.FunctionDef, ast.ClassDef))]
                own += [t.id for n in self.trees[imported[0]].body if isinstance(n, ast.Assign) for t in n.targets]
                for part in row.names:
                    self.assertIn(part.name, own, f"{path.name}: {part.name}")
                drawn[module_of(path)].add("castoff")
        drawn["castoff"].discard("castoff")
        self.assertFalse(set(tops["castoff"]) & {name.rpartition(".")[2] for name in tops})
        while drawn:
            free = [name for name, others in drawn.items() if not others & set(drawn)]
            self.assertTrue(free, f"these draw from one another: {sorted(drawn)}")
            for name in free:
                drawn.pop(name)

    def test_l3_l15_tops(self):
        for path, tree in self.trees.items():
            for number, row in enumerate(tree.body):
                if isinstance(row, ast.Expr):
                    self.assertEqual(number, 0, path.name)
                    self.assertIsInstance(row.value, ast.Constant)
                elif isinstance(row, ast.Assign):
                    inner = walked(row.value, ast.List, ast.Dict)
                    self.assertFalse([node for node in inner if node is not row.value], path.name)
                    allowed = (ast.Constant, ast.Name, ast.List, ast.Tuple, ast.Dict, ast.Load)
                    self.assertTrue(all(isinstance(node, allowed) for node in ast.walk(row.value)), path.name)
                else:
                    self.assertIsInstance(row, (ast.ImportFrom, ast.FunctionDef, ast.ClassDef))
            names = bound_at_top(tree)
            self.assertEqual(len(names), len(set(names)), path.name)

    def test_l15_what_a_top_holds_is_only_read(self):
        kept = {
            path: {row.targets[0].id for row in tree.body if isinstance(row, ast.Assign)
                   and isinstance(row.value, (ast.List, ast.Dict))}
            for path, tree in self.trees.items()
        }
        everywhere = set().union(*kept.values())
        for place, node, parent in self.each_with_parent(ast.Name):
            if node.id in everywhere and isinstance(node.ctx, ast.Load):
                index = isinstance(parent, ast.Subscript) and parent.value is node and isinstance(parent.ctx, ast.Load)
                asked = isinstance(parent, ast.Compare) and node in parent.comparators
                self.assertTrue(index or asked, place)

    def test_l3_tops_hold_functions_defined_above(self):
        for path, tree in self.trees.items():
            above = set()
            for row in tree.body:
                if isinstance(row, ast.FunctionDef):
                    above.add(row.name)
                elif isinstance(row, ast.Assign):
                    self.assertLessEqual({node.id for node in walked(row.value, ast.Name)}, above, path.name)

    def test_l6_l7_nodes(self):
        for path, tree in self.trees.items():
            for node in ast.walk(tree):
                self.assertIn(type(node), NODES, f"{path.name}:{getattr(node, 'lineno', 0)}")

    def test_l4_functions(self):
        for place, node in self.each(ast.FunctionDef, ast.Lambda):
            given = node.args
            self.assertFalse(given.vararg or given.kwarg or given.kwonlyargs or given.posonlyargs, place)
            if isinstance(node, ast.FunctionDef):
                self.assertFalse(node.decorator_list, place)
                self.assertTrue(node.end_lineno - node.lineno < 40, place)

    def test_l5_classes(self):
        for place, node in self.each(ast.ClassDef):
            self.assertTrue(len(node.bases) <= 1 and not node.keywords and not node.decorator_list, place)
            names = []
            for row in node.body:
                self.assertIsInstance(row, (ast.FunctionDef, ast.Pass), place)
                names.append(row.name if isinstance(row, ast.FunctionDef) else "pass")
            self.assertEqual(len(names), len(set(names)), place)

    def test_l6_loops_and_targets(self):
        for place, node in self.each(ast.For, ast.While):
            self.assertFalse(node.orelse, place)
        for place, node in self.each(ast.Assign):
            self.assertEqual(len(node.targets), 1, place)
        for place, node in self.each(ast.Try):
            self.assertFalse(node.finalbody, place)
        for place, node in self.each(ast.ListComp):
            self.assertTrue(len(node.generators) == 1 and len(node.generators[0].ifs) <= 1, place)
        for place, node, parent in self.each_with_parent(ast.Expr):
            allowed = (ast.Call, ast.Constant) if isinstance(parent, ast.Module) else ast.Call
            self.assertIsInstance(node.value, allowed, place)

    def test_l7_l27_values(self):
        for place, node in self.each(ast.Constant):
            self.assertIn(type(node.value), (int, str, bool, type(None)), place)
            if isinstance(node.value, str):
                self.assertNotIn("%", node.value, place)
        for place, node in self.each(ast.FormattedValue):
            self.assertIsInstance(node.value, ast.Name, place)
            self.assertIn(node.conversion, (-1, ord("r")), place)
            self.assertIsNone(node.format_spec, place)
        for place, node in self.each(ast.BinOp):
            if isinstance(node.op, ast.Pow):
                self.assertIsInstance(node.right, ast.Constant, place)
                self.assertTrue(0 <= node.right.value <= 64, place)

    def test_l8_l12_l15_l17_names(self):
        for path, tree in self.trees.items():
            tops = set(bound_at_top(tree))
            local = {node.id for node in walked(tree, ast.Name) if isinstance(node.ctx, ast.Store)}
            local |= {node.arg for node in walked(tree, ast.arg)}
            local |= {node.name for node in walked(tree, ast.ExceptHandler) if node.name}
            inner = {n.name for f in walked(tree, ast.FunctionDef) for n in walked(f, ast.FunctionDef) if n is not f}
            for node in walked(tree, ast.Name):
                self.assertIn(node.id, OWN_NAMES | tops | local | inner, f"{path.name}:{node.lineno}")
            plain = {target.id for row in tree.body if isinstance(row, ast.Assign) for target in row.targets}
            self.assertFalse((local - plain) & tops, path.name)
            for name in local | tops:
                self.assertRegex(name, r"^[A-Za-z][A-Za-z0-9_]*$")
                self.assertNotIn(name, set(vars(builtins)) | BANNED_NAMES, path.name)

    def test_l18_l25_l26_attributes(self):
        methods = self.own_methods()
        values = {node.attr for _, node in self.each(ast.Attribute) if isinstance(node.ctx, ast.Store)}
        self.assertFalse(methods & values)
        self.assertFalse(values & (BANNED_VALUES | BANNED_NAMES | (TEXT_VALUES - FREE_VALUES)))
        own = {name for name in methods if not name.startswith("__")}
        self.assertTrue(methods - own <= UNDERSCORED)
        self.assertFalse(own & (BANNED_NAMES | (TEXT_VALUES - OWN_METHODS - {"add", "discard"})))
        for name in own | values:
            self.assertRegex(name, r"^[A-Za-z][A-Za-z0-9_]*$")
        for place, node in self.each(ast.Attribute):
            self.assertIn(node.attr, OWN_METHODS | own | values | {"__init__"}, place)

    def test_l18_to_l24_uses(self):
        for place, node in self.each(ast.Compare):
            for sign, right in zip(node.ops, node.comparators):
                if isinstance(sign, (ast.Is, ast.IsNot)):
                    self.assertTrue(isinstance(right, ast.Constant) and right.value in (None, True, False), place)
        for place, node in self.each(ast.Raise):
            self.assertIsInstance(node.exc, ast.Call, place)
        for place, node in self.each(ast.ExceptHandler):
            self.assertIsNotNone(node.type, place)
            taken = {part.id for part in walked(node.type, ast.Name)}
            self.assertFalse(taken & {"Exception", "TypeError"}, place)
        for place, node in self.each(ast.FunctionDef):
            self.assertIsNone(node.returns, place)
            self.assertFalse([part for part in node.args.args if part.annotation], place)

    def test_l18_classes_as_they_are_used(self):
        classes = {node.name for _, node in self.each(ast.ClassDef)} | {"ValueError"}
        for place, node, parent in self.each_with_parent(ast.Name):
            if node.id not in classes or called(parent) == "isinstance":
                continue
            if isinstance(parent, ast.Attribute):
                self.assertEqual(parent.attr, "__init__", place)
            elif not isinstance(parent, (ast.ClassDef, ast.ExceptHandler)):
                self.assertTrue(isinstance(parent, ast.Call) and parent.func is node, place)

    def test_l22_keywords_and_names_of_pythons_own(self):
        for place, node in self.each(ast.Call):
            for word in node.keywords:
                self.assertIn(word.arg, KEYWORDS.get(called(node), ()), place)
                if word.arg == "key" and isinstance(word.value, ast.Name) and word.value.id in OWN_NAMES:
                    self.assertIn(word.value.id, KEYS, place)
        for place, node, parent in self.each_with_parent(ast.Name):
            if node.id in OWN_NAMES and node.id not in ("ValueError", "KeyError", "ZeroDivisionError", "StopIteration"):
                held = isinstance(parent, ast.keyword) or (isinstance(parent, ast.Call) and parent.func is node)
                self.assertTrue(held or called(parent) == "isinstance" or isinstance(parent, ast.Tuple), place)

    def test_l25_methods_are_called_where_they_stand(self):
        methods = (self.own_methods() | OWN_METHODS) - FREE_VALUES
        for place, node, parent in self.each_with_parent(ast.Attribute):
            if node.attr in methods:
                key = isinstance(parent, ast.keyword) and parent.arg == "key"
                self.assertTrue(key or (isinstance(parent, ast.Call) and parent.func is node), place)

    def test_l23_walked_at_once(self):
        for place, node, parent in self.each_with_parent(ast.Call):
            own = isinstance(node.func, ast.Name)
            if called(node) in (WALKED if own else WALKED_METHODS):
                self.assertTrue(walked_here(node, parent), place)

    def test_l23_what_is_walked_is_not_changed(self):
        for place, node in self.each(ast.For):
            texts = what_is_walked(node.iter)
            for row in node.body:
                for part in walked(row, ast.Subscript):
                    if isinstance(part.ctx, ast.Store):
                        self.assertNotIn(ast.unparse(part.value), texts, place)
                for part in walked(row, ast.Call):
                    if called(part) in CHANGING and isinstance(part.func, ast.Attribute):
                        self.assertNotIn(ast.unparse(part.func.value), texts, place)

    def test_l24_sets(self):
        for place, node, parent in self.each_with_parent(ast.Call, ast.Set):
            if isinstance(node, ast.Set) or called(node) in ("set", "frozenset"):
                beside = isinstance(parent, (ast.Compare, ast.BinOp))
                self.assertTrue(beside or called(parent) in ("sorted", "len"), place)

    def test_l28_underscored_methods(self):
        for place, node in self.each(ast.FunctionDef):
            if node.name == "__init__":
                self.assertFalse(walked(node, ast.Return), place)


if __name__ == "__main__":
    unittest.main()
