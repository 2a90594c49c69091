"""The form of the package's code: a part of LANGUAGE.md.

No rule is looked at beyond what the package uses of the language: so there is little of L4, L13, L19, L22 and L28, and
of L22 and L26 nothing that hangs on which kind of value a name has.
"""

import ast
import builtins
import pathlib
import re
import unittest

PACKAGE = pathlib.Path(__file__).resolve().parent.parent / "plait"
CALLED = set(
    "len range enumerate zip min max sum abs sorted reversed int str bool list tuple dict set frozenset isinstance"
    " ord repr any all divmod".split()
)
CLASSES = set(
    "Exception ValueError TypeError KeyError IndexError LookupError ZeroDivisionError ArithmeticError OverflowError"
    " RuntimeError NotImplementedError AttributeError StopIteration".split()
)
METHODS = set(
    "append clear copy count endswith extend find get index insert isalnum isalpha isdigit islower isspace isupper"
    " items join keys ljust lower lstrip partition pop remove replace reverse rfind rjust rpartition rsplit rstrip"
    " setdefault split splitlines startswith strip update upper values zfill bit_length".split()
)
BARRED_WORDS = re.compile(
    r"\b(type|typing|typing_extensions|enum|Enum|IntEnum|StrEnum|Flag|IntFlag|Generic|Protocol|ABC|ABCMeta"
    r"|namedtuple|NamedTuple|TypedDict|TYPE_CHECKING|abstractmethod)\b|dataclass|overload|contextmanager"
)
BARRED_NAMES = set(
    "register mro elements open input version_info with_traceback add_note attrgetter breakpoint builtins compile"
    " copyright credits delattr dir eval exec exit gc getattr globals hasattr help id importlib license locals"
    " methodcaller os quit setattr super type vars sys chr print format format_map hash map next filter iter".split()
)
STATEMENTS = (
    ast.Assign, ast.AugAssign, ast.If, ast.While, ast.For, ast.Return, ast.Break, ast.Continue, ast.Pass, ast.Raise,
    ast.Try, ast.Expr, ast.FunctionDef, ast.ClassDef, ast.ImportFrom,
)
BARRED_EXPRESSIONS = (
    ast.SetComp, ast.DictComp, ast.GeneratorExp, ast.NamedExpr, ast.Starred, ast.Await, ast.Yield, ast.YieldFrom,
    ast.Div, ast.MatMult, ast.Set,
)


# What changes a list or a dict in its place, and what Python's own values have that objects may not (L26).
CHANGING = set("append clear extend insert pop remove reverse setdefault update".split())
OWN_VALUES = set("count index title find get join lower upper split strip copy add".split())
PYTHONS_OWN = {name for kind in (str, int, list, dict, set, bytes, tuple) for name in dir(kind)}
WALKED = {"zip", "enumerate", "reversed", "range"}
WALKED_METHODS = {"items", "keys", "values"}
WALKERS = {"list", "tuple", "dict", "sorted", "sum", "any", "all", "enumerate", "zip"}
KEYWORDS = {
    "sorted": {"key", "reverse"}, "min": {"key", "default"}, "max": {"key", "default"}, "sum": {"start"},
    "enumerate": {"start"}, "zip": {"strict"},
}


def files():
    return sorted(path for path in PACKAGE.rglob("*") if "__pycache__" not in path.parts)


def parsed():
    return [(path, path.read_text(encoding="ascii")) for path in files()]


def nodes(kind):
    for path, text in parsed():
        for node in ast.walk(ast.parse(text)):
            if isinstance(node, kind):
                yield f"{path.name}:{getattr(node, 'lineno', 0)}", node


def with_parents():
    """Each node with the one that it stands in."""
    for path, text in parsed():
        for parent in ast.walk(ast.parse(text)):
            for node in ast.iter_child_nodes(parent):
                yield f"{path.name}:{getattr(node, 'lineno', 0)}", parent, node


def called_name(node):
    return node.func.id if isinstance(node, ast.Call) and isinstance(node.func, ast.Name) else None


def changed_in(statements):
    """Dumps of all that these statements change in its place, by a method or by an index."""
    told = []
    for statement in statements:
        for node in ast.walk(statement):
            if isinstance(node, ast.Call) and isinstance(node.func, ast.Attribute) and node.func.attr in CHANGING:
                told.append(ast.unparse(node.func.value))
            elif isinstance(node, ast.Subscript) and isinstance(node.ctx, ast.Store):
                told.append(ast.unparse(node.value))
    return told


def walked_by(node):
    """What a loop walks, through enumerate, zip, reversed and the walks of a dict."""
    if isinstance(node, ast.Call) and called_name(node) in WALKED:
        return [each for argument in node.args for each in walked_by(argument)]
    if isinstance(node, ast.Call) and isinstance(node.func, ast.Attribute) and node.func.attr in WALKED_METHODS:
        return [ast.unparse(node.func.value)]
    return [ast.unparse(node)]


def kept_at_top(tree):
    """The lists and dicts that stand at the top of a file."""
    rows = [node for node in tree.body if isinstance(node, ast.Assign) and isinstance(node.value, (ast.List, ast.Dict))]
    return {row.targets[0].id: row.value for row in rows}


def bound_at_top(tree):
    told = []
    for node in tree.body:
        if isinstance(node, (ast.FunctionDef, ast.ClassDef)):
            told.append(node.name)
        elif isinstance(node, ast.Assign):
            told += [target.id for target in node.targets]
        elif isinstance(node, ast.ImportFrom):
            told += [alias.asname or alias.name for alias in node.names]
    return told


class Files(unittest.TestCase):
    def test_names_and_signs(self):
        self.assertIn(PACKAGE / "__init__.py", files())
        for path in files():
            self.assertRegex(path.name, r"^([a-z][a-z0-9_]*|__init__|__main__)\.py$")
            text = path.read_bytes().decode("ascii")
            self.assertRegex(text, r"\A[ -~\n]*\Z")
            self.assertNotRegex(text, BARRED_WORDS)

    def test_sizes(self):
        for path, text in parsed():
            lines = text.split("\n")
            self.assertLessEqual(len(lines), 400, path.name)
            self.assertLessEqual(max(len(line) for line in lines), 120, path.name)
        for where, node in nodes(ast.FunctionDef):
            self.assertLessEqual(node.end_lineno - node.lineno + 1, 40, where)

    def test_each_top_name_is_bound_once(self):
        for path, text in parsed():
            names = bound_at_top(ast.parse(text))
            self.assertEqual(len(set(names)), len(names), path.name)


class Imports(unittest.TestCase):
    def test_from_the_file_that_defines_the_name(self):
        defined = {f"plait.{path.stem}": ast.parse(text) for path, text in parsed()}
        for where, node in nodes(ast.ImportFrom):
            self.assertEqual(node.level, 0, where)
            tree = defined[node.module]
            own = [each for each in tree.body if not isinstance(each, ast.ImportFrom)]
            for alias in node.names:
                self.assertIn(alias.name, bound_at_top(ast.Module(own, [])), where)

    def test_no_two_files_draw_from_one_another(self):
        drawn = {}
        for path, text in parsed():
            rows = [node for node in ast.parse(text).body if isinstance(node, ast.ImportFrom)]
            drawn[f"plait.{path.stem}"] = {row.module for row in rows}
        while drawn:
            free = [name for name, below in drawn.items() if not below & set(drawn)]
            self.assertTrue(free, sorted(drawn))
            drawn = {name: below for name, below in drawn.items() if name not in free}


class Kept(unittest.TestCase):
    def test_what_a_loop_walks_is_not_changed_in_it(self):
        for where, node in nodes(ast.For):
            self.assertFalse(set(walked_by(node.iter)) & set(changed_in(node.body)), where)

    def test_lists_and_dicts_of_a_files_top_are_only_read(self):
        trees = [(path.name, ast.parse(text)) for path, text in parsed()]
        names = {name for where, tree in trees for name in kept_at_top(tree)}
        for where, tree in trees:
            for value in kept_at_top(tree).values():
                within = [node for node in ast.walk(value) if node is not value]
                self.assertFalse([node for node in within if isinstance(node, (ast.List, ast.Dict))], where)
            self.assertFalse(names & set(changed_in(tree.body)), where)
        for where, parent, node in with_parents():
            if isinstance(node, ast.Name) and isinstance(node.ctx, ast.Load) and node.id in names:
                self.assertIsInstance(parent, (ast.Subscript, ast.Compare), where)

    def test_what_stands_at_a_files_top(self):
        for path, text in parsed():
            for node in ast.parse(text).body[1:]:
                self.assertIsInstance(node, (ast.ImportFrom, ast.FunctionDef, ast.ClassDef, ast.Assign), path.name)

    def test_a_file_keeps_nothing(self):
        for where, node in nodes((ast.Global, ast.Nonlocal)):
            self.fail(where)
        for path, text in parsed():
            for node in ast.parse(text).body:
                if isinstance(node, ast.Assign):
                    within = [each for each in ast.walk(node.value) if isinstance(each, (ast.Call, ast.ListComp))]
                    self.assertEqual(within, [], path.name)


class Classes(unittest.TestCase):
    def test_where_a_class_stands(self):
        names = {node.name for where, node in nodes(ast.ClassDef)}
        for where, parent, node in with_parents():
            if isinstance(node, ast.Name) and node.id in names:
                called = isinstance(parent, ast.Call) and parent.func is node
                asked = called_name(parent) == "isinstance"
                self.assertTrue(called or asked or isinstance(parent, (ast.ClassDef, ast.ExceptHandler)), where)

    def test_methods_and_values(self):
        methods, values = {}, {}
        for where, node in nodes(ast.ClassDef):
            inner = [each.name for each in node.body if isinstance(each, ast.FunctionDef)]
            self.assertEqual(len(set(inner)), len(inner), where)
            self.assertTrue(all(isinstance(each, (ast.FunctionDef, ast.Pass)) for each in node.body), where)
            methods.update(dict.fromkeys(inner, where))
        for where, node in nodes(ast.Attribute):
            if isinstance(node.ctx, ast.Store):
                self.assertEqual(ast.unparse(node.value), "self", where)
                values[node.attr] = where
        self.assertFalse(set(methods) & set(values))
        self.assertFalse((set(values) & PYTHONS_OWN) - OWN_VALUES)
        self.assertFalse((set(methods) & PYTHONS_OWN) - METHODS - {"__init__", "add", "discard"})

    def test_init_gives_back_nothing(self):
        for where, node in nodes(ast.FunctionDef):
            if node.name.startswith("__"):
                self.assertEqual(node.name, "__init__", where)
                self.assertFalse([each for each in ast.walk(node) if isinstance(each, ast.Return)], where)

    def test_only_the_programs_own_errors_are_taken(self):
        own = {node.name for where, node in nodes(ast.ClassDef)}
        for where, node in nodes(ast.ExceptHandler):
            self.assertIn(node.type.id, own, where)
        for where, node in nodes(ast.Raise):
            self.assertIn(called_name(node.exc), own, where)


class Code(unittest.TestCase):
    def test_statements(self):
        for where, node in nodes(ast.stmt):
            self.assertIsInstance(node, STATEMENTS, where)
            if isinstance(node, (ast.For, ast.While)):
                self.assertEqual(node.orelse, [], where)
            if isinstance(node, ast.Assign):
                self.assertEqual(len(node.targets), 1, where)
            if isinstance(node, ast.Try):
                self.assertEqual(node.finalbody, [], where)
            if isinstance(node, ast.ClassDef):
                self.assertEqual(node.decorator_list, [], where)
                self.assertLessEqual(len(node.bases), 1, where)
            if isinstance(node, ast.FunctionDef):
                self.assertEqual(node.decorator_list, [], where)

    def test_a_text_by_itself_stands_at_the_top_of_a_file_alone(self):
        for path, text in parsed():
            tree = ast.parse(text)
            self.assertIsNotNone(ast.get_docstring(tree), path.name)
            alone = [node for node in ast.walk(tree) if isinstance(node, ast.Expr) and node is not tree.body[0]]
            self.assertTrue(all(isinstance(node.value, ast.Call) for node in alone), path.name)

    def test_expressions(self):
        for where, node in nodes((ast.expr, ast.operator)):
            self.assertNotIsInstance(node, BARRED_EXPRESSIONS, where)
            if isinstance(node, ast.Constant):
                self.assertIn(type(node.value), (int, str, bool, type(None)), where)
                self.assertNotIn("%", str(node.value), where)
            if isinstance(node, ast.ListComp):
                self.assertEqual(len(node.generators), 1, where)
                self.assertLessEqual(len(node.generators[0].ifs), 1, where)
            if isinstance(node, ast.FormattedValue):
                self.assertIsInstance(node.value, ast.Name, where)
            if isinstance(node, ast.Compare) and isinstance(node.ops[0], (ast.Is, ast.IsNot)):
                self.assertIsInstance(node.comparators[0], ast.Constant, where)

    def test_parameters(self):
        for where, node in nodes(ast.arguments):
            self.assertEqual((node.vararg, node.kwarg, node.kwonlyargs, node.posonlyargs), (None, None, [], []), where)

    def test_names(self):
        for where, node in nodes(ast.Name):
            self.assertRegex(node.id, r"^[A-Za-z]", where)
            self.assertNotIn(node.id, BARRED_NAMES, where)
            if isinstance(node.ctx, ast.Store):
                self.assertNotIn(node.id, CALLED | CLASSES, where)
        for where, node in nodes(ast.arg):
            self.assertRegex(node.arg, r"^[A-Za-z]", where)
            self.assertNotIn(node.arg, CALLED | CLASSES | BARRED_NAMES, where)
            self.assertIsNone(node.annotation, where)
        for where, node in nodes(ast.FunctionDef):
            self.assertRegex(node.name, r"^([A-Za-z]\w*|__init__|__eq__|__repr__|__str__|__len__)$", where)

    def test_no_parameter_or_local_is_called_like_an_import_or_a_class(self):
        for path, text in parsed():
            tree = ast.parse(text)
            taken = set()
            for node in tree.body:
                if isinstance(node, ast.ClassDef):
                    taken.add(node.name)
                elif isinstance(node, ast.ImportFrom):
                    taken |= {alias.name for alias in node.names}
            for node in ast.walk(tree):
                if isinstance(node, ast.Name) and isinstance(node.ctx, ast.Store):
                    self.assertNotIn(node.id, taken, path.name)
                elif isinstance(node, ast.arg):
                    self.assertNotIn(node.arg, taken, path.name)

    def test_no_parameter_or_local_is_called_like_pythons_own(self):
        own = set(dir(builtins))
        for where, node in nodes((ast.Name, ast.arg, ast.FunctionDef)):
            if isinstance(node, ast.FunctionDef):
                self.assertNotIn(node.name, own, where)
            elif isinstance(node, ast.arg) or isinstance(node.ctx, ast.Store):
                self.assertNotIn(getattr(node, "id", None) or node.arg, own, where)

    def test_what_is_walked_on_the_spot(self):
        for where, parent, node in with_parents():
            method = isinstance(node, ast.Call) and isinstance(node.func, ast.Attribute) and node.func.attr
            if called_name(node) in WALKED or method in WALKED_METHODS:
                walker = called_name(parent)
                walked = isinstance(parent, (ast.For, ast.comprehension)) and parent.iter is node
                first = walker in WALKERS and node in (parent.args if walker == "zip" else parent.args[:1])
                alone = walker in ("min", "max") and parent.args == [node]
                joined = isinstance(parent, ast.Call) and getattr(parent.func, "attr", None) == "join"
                self.assertTrue(walked or first or alone or joined, where)

    def test_sets(self):
        operators = (ast.Sub, ast.BitAnd, ast.BitOr, ast.BitXor)
        for where, parent, node in with_parents():
            if called_name(node) in ("set", "frozenset"):
                between = isinstance(parent, ast.BinOp) and isinstance(parent.op, operators)
                within = called_name(parent) in ("sorted", "len") and parent.keywords == []
                self.assertTrue(isinstance(parent, ast.Compare) or between or within, where)

    def test_keywords(self):
        own = {node.name for where, node in nodes((ast.FunctionDef, ast.ClassDef))}
        for where, node in nodes(ast.Call):
            if called_name(node) not in own:
                allowed = KEYWORDS.get(called_name(node), set())
                self.assertLessEqual({each.arg for each in node.keywords}, allowed, where)

    def test_powers_have_a_written_exponent(self):
        for where, node in nodes(ast.BinOp):
            if isinstance(node.op, ast.Pow):
                self.assertIsInstance(node.right, ast.Constant, where)
                self.assertIn(node.right.value, range(65), where)

    def test_no_two_lambdas_with_the_same_parameters_on_one_line(self):
        told = [(where, ast.dump(node.args)) for where, node in nodes(ast.Lambda)]
        self.assertEqual(len(set(told)), len(told))

    def test_errors_are_taken_by_name(self):
        for where, node in nodes(ast.ExceptHandler):
            caught = node.type.elts if isinstance(node.type, ast.Tuple) else [node.type]
            for each in caught:
                self.assertIsInstance(each, ast.Name, where)
                self.assertNotIn(each.id, ("Exception", "TypeError", "BaseException"), where)

    def test_calls_of_pythons_own(self):
        own = {node.name for where, node in nodes(ast.FunctionDef)}
        for where, node in nodes(ast.Call):
            if isinstance(node.func, ast.Attribute):
                self.assertIn(node.func.attr, METHODS | own, where)
            elif node.func.id not in own and not node.func.id[0].isupper():
                self.assertIn(node.func.id, CALLED, where)


if __name__ == "__main__":
    unittest.main()
