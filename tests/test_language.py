"""The rules of form for the files of the package, as far as a look at their text can tell them."""

import ast
import builtins
import pathlib
import re
import unittest

FOLDER = pathlib.Path(__file__).resolve().parent.parent / "wheelgrown"
FILES = sorted(path for path in FOLDER.rglob("*") if path.is_file() and "__pycache__" not in path.parts)
LIBRARY = {"heapq", "math", "itertools", "collections"}
BUILTINS = set(
    "len range enumerate zip min max sum abs sorted reversed int str bool list tuple dict set isinstance ord repr any all "
    "divmod iter next Exception ValueError TypeError KeyError IndexError LookupError ZeroDivisionError ArithmeticError "
    "OverflowError RuntimeError NotImplementedError NotImplemented property classmethod staticmethod".split())
DOUBLE = set(
    "init eq repr str len enter exit call iter lt le gt ge ne add sub mul floordiv mod pow and or xor lshift rshift neg pos "
    "invert abs bool contains getitem setitem".split())
METHODS = set(
    "append clear copy count endswith extend find get index insert isalnum isalpha isdigit islower isspace isupper items "
    "join keys ljust lower lstrip partition pop remove replace reverse rfind rjust rpartition rsplit rstrip setdefault split "
    "splitlines startswith strip update upper values zfill bit_length add discard popleft appendleft".split())
BARRED = (
    "type typing enum Enum Flag Generic Protocol ABC namedtuple NamedTuple TypedDict register mro elements law global "
    "async await exec eval globals locals vars open input").split()
CHANGING = set("append clear extend insert pop remove reverse setdefault update add discard popleft appendleft".split())
TREES = {path: ast.parse(path.read_text(encoding="utf-8")) for path in FILES if path.suffix == ".py"}


def name_of(path):
    parts = (FOLDER.name,) + path.relative_to(FOLDER).with_suffix("").parts
    return ".".join(part for part in parts if part != "__init__")


def nodes(kind):
    return [(path, node) for path, tree in TREES.items() for node in ast.walk(tree) if isinstance(node, kind)]


def bound_names():
    """All names that are bound somewhere, with their files."""
    found = [(path, node.id) for path, node in nodes(ast.Name) if not isinstance(node.ctx, ast.Load)]
    found += [(path, node.arg) for path, node in nodes(ast.arg)]
    found += [(path, node.name) for path, node in nodes((ast.FunctionDef, ast.ClassDef))]
    return found


def roots(node):
    """The names whose values an expression can be, or be a field, an item or a choice of."""
    if isinstance(node, ast.Name):
        return {node.id}
    if isinstance(node, (ast.Attribute, ast.Subscript, ast.Starred)):
        return roots(node.value)
    if isinstance(node, ast.IfExp):
        return roots(node.body) | roots(node.orelse)
    if isinstance(node, ast.BoolOp):
        return set().union(*map(roots, node.values))
    if isinstance(node, ast.Call) and isinstance(node.func, ast.Name) and node.func.id in ("enumerate", "zip", "reversed"):
        return set().union(*map(roots, node.args))
    if isinstance(node, ast.Call) and isinstance(node.func, ast.Attribute) and node.func.attr in ("items", "keys", "values"):
        return roots(node.func.value)
    return set()


def other_names(function, names):
    """These names, and all that an assignment in the function gives to the same values."""
    pairs = [(roots(target), roots(node.value)) for node in ast.walk(function) if isinstance(node, ast.Assign)
             for target in node.targets if isinstance(target, ast.Name)]
    names = set(names)
    for _ in pairs:
        for one, other in pairs:
            if (one | other) & names:
                names |= one | other
    return names


def changed_names(node):
    """The names whose values a statement changes by a method or by an item."""
    found = set()
    for inner in ast.walk(node):
        if isinstance(inner, ast.Call) and isinstance(inner.func, ast.Attribute) and inner.func.attr in CHANGING:
            found |= roots(inner.func.value)
        elif isinstance(inner, (ast.Subscript, ast.Attribute)) and not isinstance(inner.ctx, ast.Load):
            found |= roots(inner)
        elif isinstance(inner, ast.AugAssign):
            found |= roots(inner.target)
    return found


def loops_that_change_what_they_walk(tree):
    return [loop.lineno for function in ast.walk(tree) if isinstance(function, ast.FunctionDef)
            for loop in ast.walk(function) if isinstance(loop, ast.For)
            if any(other_names(function, roots(loop.iter)) & changed_names(row) for row in loop.body)]


PARENTS = {child: node for tree in TREES.values() for node in ast.walk(tree) for child in ast.iter_child_nodes(node)}
TAKERS = ("list", "tuple", "dict", "sorted", "sum", "any", "all", "enumerate", "zip", "min", "max")


def is_iterated_at_once(node, takers):
    """Whether a loop or a comprehension goes over what a call returns, or one of some builtins takes it."""
    around = PARENTS[node]
    if isinstance(around, (ast.For, ast.comprehension)):
        return around.iter is node
    return isinstance(around, ast.Call) and isinstance(around.func, ast.Name) and around.func.id in takers and node is around.args[0]


class FilesTest(unittest.TestCase):
    def test_files_and_folders(self):
        for path in FILES:
            self.assertRegex(path.name, r"^[a-z0-9_]+\.py$")
            self.assertTrue((path.parent / "__init__.py").is_file(), path)

    def test_sizes_and_characters(self):
        for path in FILES:
            text = path.read_text(encoding="utf-8")
            self.assertTrue(all(character == "\n" or " " <= character <= "~" for character in text), path)
            self.assertLessEqual(len(text.splitlines()), 399, path)
            self.assertLessEqual(max(map(len, text.splitlines())), 120, path)
        for path, node in nodes(ast.FunctionDef):
            self.assertLessEqual(node.end_lineno - node.lineno + 1, 40, (path, node.name))

    def test_module_level(self):
        kinds = (ast.ImportFrom, ast.FunctionDef, ast.ClassDef, ast.Assign, ast.Expr)
        for path, tree in TREES.items():
            for node in tree.body:
                self.assertIsInstance(node, kinds, path)
                if isinstance(node, ast.Expr):
                    self.assertIsInstance(node.value, ast.Constant, path)

    def test_imports(self):
        self.assertEqual(nodes(ast.Import), [])
        for path, node in nodes(ast.ImportFrom):
            self.assertEqual(node.level, 0, path)
            if node.module in LIBRARY:
                continue
            home = {name_of(other): tree for other, tree in TREES.items()}[node.module]
            defined = {item.name for item in home.body if isinstance(item, (ast.FunctionDef, ast.ClassDef))}
            defined |= {item.targets[0].id for item in home.body if isinstance(item, ast.Assign)}
            for alias in node.names:
                self.assertIn(alias.name, defined, path)
                self.assertIsNone(alias.asname, path)

    def test_imports_lead_down_only(self):
        needs = {name_of(path): set() for path in TREES}
        for path, node in nodes(ast.ImportFrom):
            if node.module not in LIBRARY:
                needs[name_of(path)].add(node.module)
        while needs:
            free = [name for name, others in needs.items() if not others & set(needs)]
            self.assertNotEqual(free, [], needs)
            for name in free:
                del needs[name]


class NamesTest(unittest.TestCase):
    def test_builtins(self):
        for path, node in nodes(ast.Name):
            if hasattr(builtins, node.id):
                self.assertIn(node.id, BUILTINS, path)

    def test_bound_names(self):
        for path, name in bound_names():
            self.assertNotIn(name, BARRED, path)
            if name.startswith("__"):
                self.assertIn(name.strip("_"), DOUBLE, path)
            else:
                self.assertFalse(hasattr(builtins, name), (path, name))

    def test_names_are_bound_once(self):
        for path, tree in TREES.items():
            names = [node.name for node in tree.body if isinstance(node, (ast.FunctionDef, ast.ClassDef))]
            names += [node.targets[0].id for node in tree.body if isinstance(node, ast.Assign)]
            taken = [alias.name for node in tree.body if isinstance(node, ast.ImportFrom) for alias in node.names]
            self.assertEqual(len(names + taken), len(set(names + taken)), path)
            classes = [node.name for node in tree.body if isinstance(node, ast.ClassDef)]
            inner = [name for other, name in bound_names() if other == path]
            for name in taken + classes:
                self.assertEqual(inner.count(name), classes.count(name), (path, name))

    def test_barred_words(self):
        for path, tree in TREES.items():
            for node in ast.walk(tree):
                words = [getattr(node, part, None) for part in ("id", "attr", "name", "arg")]
                self.assertFalse([word for word in words if word in BARRED], path)
                if isinstance(node, ast.Constant) and isinstance(node.value, str):
                    self.assertNotIn("%", node.value, path)

    def test_methods_of_builtin_values(self):
        own = {node.name for _, node in nodes(ast.FunctionDef)}
        for path, node in nodes(ast.Call):
            if isinstance(node.func, ast.Attribute):
                self.assertIn(node.func.attr, METHODS | own, path)

    def test_no_two_functions_where_one_yields(self):
        names = [node.name for _, node in nodes(ast.FunctionDef)]
        for path, node in nodes(ast.FunctionDef):
            if any(isinstance(inner, (ast.Yield, ast.YieldFrom)) for inner in ast.walk(node)):
                self.assertEqual(names.count(node.name), 1, path)


class StatementsTest(unittest.TestCase):
    def test_statements_that_are_not_used(self):
        # Some of these could stand under rules that this test does not tell.
        kinds = (ast.AsyncFunctionDef, ast.Await, ast.Global, ast.GeneratorExp, ast.Match, ast.Nonlocal, ast.NamedExpr, ast.Delete)
        self.assertEqual(nodes(kinds), [])

    def test_errors_are_own_ones_by_name(self):
        tree = next(tree for path, tree in TREES.items() if name_of(path) == "wheelgrown.errors")
        own = {node.name for node in tree.body if isinstance(node, ast.ClassDef)}
        for path, node in nodes(ast.Raise):
            self.assertTrue(isinstance(node.exc, ast.Call) and node.exc.func.id in own, (path, node.lineno))
        for path, function in nodes(ast.FunctionDef):
            handlers = [node for node in ast.walk(function) if isinstance(node, ast.ExceptHandler)]
            self.assertTrue(all(isinstance(node.type, ast.Name) and node.type.id in own for node in handlers), (path, function.name))
            names = [node.name for node in handlers if node.name]
            bound = [node.id for node in ast.walk(function) if isinstance(node, ast.Name) and not isinstance(node.ctx, ast.Load)]
            self.assertEqual(len(names), len(set(names) - set(bound)), (path, function.name))
        self.assertFalse(any(node.finalbody for _, node in nodes(ast.Try)))

    def test_blocks_are_over_calls(self):
        for path, node in nodes(ast.With):
            self.assertTrue(all(isinstance(item.context_expr, ast.Call) for item in node.items), path)

    def test_rows_of_exit(self):
        found = [(path, node) for path, node in nodes(ast.FunctionDef) if node.name == "__exit__"]
        self.assertEqual(len(found), 1)
        for path, node in found:
            for row in node.body:
                self.assertIsInstance(row, ast.Assign, path)
                self.assertIsInstance(row.value, (ast.Attribute, ast.Name, ast.Constant), path)
            self.assertEqual(len([row for row in node.body if isinstance(row.targets[0], ast.Name)]), 1)

    def test_tables_at_module_level_are_only_looked_up(self):
        for path, tree in TREES.items():
            tables = [node.targets[0].id for node in tree.body if isinstance(node, ast.Assign) and isinstance(node.value, (ast.Dict, ast.List))]
            for name in [node for node in ast.walk(tree) if isinstance(node, ast.Name) and node.id in tables and isinstance(node.ctx, ast.Load)]:
                around = PARENTS[name]
                looked_up = isinstance(around, ast.Subscript) and around.value is name and isinstance(around.ctx, ast.Load)
                self.assertTrue(looked_up or isinstance(around, ast.Compare), (path, ast.unparse(around)))

    def test_len_returns_a_length(self):
        for path, node in nodes(ast.FunctionDef):
            if node.name == "__len__":
                self.assertRegex(ast.unparse(node.body[-1]), r"^return len\(", path)
            if node.name == "__iter__":
                self.assertRegex(ast.unparse(node.body[-1]), r"^return iter\(self\.\w+(\.\w+)?\)$", path)

    def test_no_attribute_has_the_name_of_a_property_or_a_method(self):
        inner = {node.name for _, kind in nodes(ast.ClassDef) for node in kind.body if isinstance(node, ast.FunctionDef)}
        for path, node in nodes(ast.Attribute):
            if not isinstance(node.ctx, ast.Load):
                self.assertNotIn(node.attr, inner, path)

    def test_no_loop_changes_what_it_walks(self):
        for path, tree in TREES.items():
            self.assertEqual(loops_that_change_what_they_walk(tree), [], path)

    def test_the_look_at_loops_sees_other_names(self):
        rows = ["def f(rows, more):", "    layer = [1]", "    while layer:", "        ahead = []", "        for k in layer:",
                "            ahead.append(k)", "        layer = ahead"]
        self.assertEqual(loops_that_change_what_they_walk(ast.parse("\n".join(rows))), [5])
        self.assertEqual(loops_that_change_what_they_walk(ast.parse("\n".join(rows[:-1]))), [])
        for head, body, many in (("rows", "rows.pop()", 1), ("rows", "more.pop()", 0), ("list(rows)", "rows.pop()", 0),
                                 ("enumerate(rows)", "rows[0] = 1", 1), ("rows.items()", "del rows[0]", 1),
                                 ("rows if more else []", "rows.append(1)", 1), ("rows or more", "more += [1]", 1),
                                 ("more.rows", "more.rows.append(1)", 1)):
            text = f"def f(rows, more):\n    for k in {head}:\n        {body}"
            self.assertEqual(len(loops_that_change_what_they_walk(ast.parse(text))), many, text)

    def test_what_is_iterated_at_once(self):
        for path, node in nodes(ast.Call):
            name = node.func.id if isinstance(node.func, ast.Name) else getattr(node.func, "attr", "")
            plain = isinstance(node.func, ast.Name) and name in ("range", "zip", "enumerate", "reversed")
            if plain or isinstance(node.func, ast.Attribute) and name in ("items", "keys", "values"):
                self.assertTrue(is_iterated_at_once(node, TAKERS), (path, ast.unparse(node)))
            # A class of the package has __getitem__.
            if name == "reversed":
                self.assertRegex(ast.unparse(node.args[0]), r"^(list|tuple|sorted|range)\(", path)

    def test_generators_are_iterated_at_once(self):
        made = [node.name for _, node in nodes(ast.FunctionDef) if any(isinstance(inner, ast.Yield) for inner in ast.walk(node))]
        self.assertTrue(made)
        for path, node in nodes(ast.Name):
            if node.id in made:
                call = PARENTS[node]
                self.assertTrue(isinstance(call, ast.Call) and call.func is node, (path, node.id))
                self.assertTrue(is_iterated_at_once(call, ("list", "tuple")), (path, ast.unparse(call)))
                for passed in call.args:
                    inner = [part for part in ast.walk(passed) if isinstance(part, ast.Call)]
                    self.assertTrue(all(ast.unparse(part.func) == "len" for part in inner), (path, ast.unparse(call)))

    def test_stars_stand_before_plain_names(self):
        for path, node in nodes(ast.Call):
            self.assertTrue(all(keyword.arg for keyword in node.keywords), path)
            for passed in node.args:
                if isinstance(passed, ast.Starred):
                    self.assertIsInstance(passed.value, ast.Name, (path, ast.unparse(node)))

    def test_decorators(self):
        for path, node in nodes((ast.FunctionDef, ast.ClassDef)):
            for mark in node.decorator_list:
                self.assertIn(ast.unparse(mark), ("property", "classmethod", "staticmethod"), path)

    def test_is_stands_beside_none_true_false(self):
        for path, node in nodes(ast.Compare):
            if any(isinstance(sign, (ast.Is, ast.IsNot)) for sign in node.ops):
                self.assertIn(ast.unparse(node.comparators[0]), ("None", "True", "False"), path)

    def test_numbers(self):
        for path, node in nodes(ast.Constant):
            self.assertNotIsInstance(node.value, (float, complex), path)
        for path, node in nodes(ast.BinOp):
            self.assertNotIsInstance(node.op, ast.Div, path)

    def test_sets_stand_where_they_may(self):
        for path, tree in TREES.items():
            for node in ast.walk(tree):
                inner = list(ast.iter_child_nodes(node))
                for child in inner:
                    if isinstance(child, ast.Call) and isinstance(child.func, ast.Name) and child.func.id == "set":
                        around = re.match(r"(sorted|len)\(set\(", ast.unparse(node)) is not None
                        self.assertTrue(around or isinstance(node, (ast.Compare, ast.Assign)), (path, ast.unparse(node)))


if __name__ == "__main__":
    unittest.main()
