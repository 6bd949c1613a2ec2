"""The rules of the language subset that can be seen in the files of the package."""

import ast
import re
import unittest
from pathlib import Path

PACKAGE = Path(__file__).resolve().parent.parent / "smallcourt"
FILES = sorted(path for path in PACKAGE.rglob("*") if path.is_file() and "__pycache__" not in path.parts)
LIBRARY = {
    "heapq": {"heappush", "heappop", "heapify", "heapreplace", "heappushpop"},
    "math": {"gcd", "lcm", "isqrt", "comb", "perm", "factorial"},
    "itertools": {"product", "combinations", "permutations"},
}
BUILTINS = set(
    "len range enumerate zip min max sum abs sorted reversed int str bool list tuple dict set isinstance ord repr any "
    "all divmod super property classmethod iter next map Exception ValueError TypeError KeyError IndexError LookupError "
    "ZeroDivisionError NotImplementedError NotImplemented".split()
)
METHODS = set(
    "append clear copy count endswith extend find get index insert isalnum isalpha isdigit islower isspace isupper "
    "items join keys ljust lower lstrip partition pop remove replace reverse rfind rjust rpartition rsplit rstrip "
    "setdefault split splitlines startswith strip update upper values zfill bit_length add discard __init__".split()
)
SPECIAL = set(
    "__init__ __eq__ __len__ __enter__ __exit__ __call__ __iter__ __and__ __sub__ __contains__ __getitem__".split()
)
BARRED_NAMES = set("register mro elements open input law version_info with_traceback add_note".split())
BARRED_WORDS = set(
    "type typing typing_extensions enum Enum IntEnum StrEnum Flag IntFlag Generic Protocol ABC ABCMeta namedtuple "
    "NamedTuple TypedDict TYPE_CHECKING abstractmethod".split()
)
BARRED_NODES = (
    ast.Global, ast.AsyncFunctionDef, ast.AsyncFor, ast.AsyncWith, ast.Await, ast.Import, ast.Div, ast.MatMult,
)


def trees():
    return [(path, ast.parse(path.read_text(encoding="utf-8"))) for path in FILES]


def nodes(kind):
    return [(path, node) for path, tree in trees() for node in ast.walk(tree) if isinstance(node, kind)]


def module_of(path):
    parts = path.relative_to(PACKAGE.parent).with_suffix("").parts
    return ".".join(parts[:-1] if parts[-1] == "__init__" else parts)


def defined(tree):
    """The names that a file binds at module level, except by imports."""
    found = []
    for node in tree.body:
        if isinstance(node, (ast.FunctionDef, ast.ClassDef)):
            found.append(node.name)
        elif isinstance(node, ast.Assign):
            found.extend(target.id for target in node.targets)
    return found


def bound(tree):
    """All names that a file binds anywhere."""
    found = set(defined(tree))
    for node in ast.walk(tree):
        if isinstance(node, ast.Name) and not isinstance(node.ctx, ast.Load):
            found.add(node.id)
        elif isinstance(node, ast.arg):
            found.add(node.arg)
        elif isinstance(node, ast.ImportFrom):
            found.update(alias.asname or alias.name for alias in node.names)
        elif isinstance(node, ast.FunctionDef):
            found.add(node.name)
        elif isinstance(node, ast.ExceptHandler) and node.name:
            found.add(node.name)
    return found


def decorator_of(function):
    """The name of the decorator of a function, "" without one."""
    return function.decorator_list[0].id if function.decorator_list else ""


def local_names(function):
    """All names that a function binds, its parameters included."""
    found = {one.arg for one in ast.walk(function.args) if isinstance(one, ast.arg)}
    for node in ast.walk(function):
        if isinstance(node, ast.Name) and not isinstance(node.ctx, ast.Load):
            found.add(node.id)
    return found


def asks_for_none(test):
    """Tell whether a test only asks whether names and attributes are None, joined by `and`, `or` and `not`."""
    if isinstance(test, ast.BoolOp):
        return all(asks_for_none(part) for part in test.values)
    if isinstance(test, ast.UnaryOp):
        return isinstance(test.op, ast.Not) and asks_for_none(test.operand)
    if not isinstance(test, ast.Compare) or len(test.ops) > 1 or not isinstance(test.ops[0], (ast.Is, ast.IsNot)):
        return False
    asked, answer = test.left, test.comparators[0]
    while isinstance(asked, ast.Attribute):
        asked = asked.value
    return isinstance(asked, ast.Name) and isinstance(answer, ast.Constant) and answer.value is None


class FilesTest(unittest.TestCase):
    def test_names_of_files(self):
        for path in FILES:
            self.assertRegex(path.name, r"^([a-z][a-z0-9_]*|__init__|__main__)\.py$")
        self.assertLessEqual(len(FILES), 100)

    def test_characters(self):
        for path in FILES:
            self.assertRegex(path.read_bytes(), rb"\A[ -~\n]*\Z", path.name)

    def test_sizes(self):
        for path in FILES:
            rows = path.read_text(encoding="utf-8").split("\n")
            self.assertLessEqual(len(rows), 399, path.name)
            self.assertLessEqual(max(len(row) for row in rows), 120, path.name)
        for path, node in nodes(ast.FunctionDef):
            self.assertLessEqual(node.end_lineno - node.lineno + 1, 40, (path.name, node.name))

    def test_imports(self):
        made = {module_of(path): set(defined(tree)) for path, tree in trees()}
        for path, node in nodes(ast.ImportFrom):
            self.assertEqual(node.level, 0, path.name)
            for alias in node.names:
                self.assertIsNone(alias.asname, path.name)
                self.assertIn(alias.name, LIBRARY.get(node.module) or made[node.module], path.name)

    def test_no_import_in_circles(self):
        needs = {module_of(path): set() for path, _ in trees()}
        for path, node in nodes(ast.ImportFrom):
            needs[module_of(path)].add(node.module)
        while needs:
            free = [name for name in needs if not needs[name] & set(needs)]
            self.assertTrue(free, needs)
            needs = {name: needs[name] for name in needs if name not in free}

    def test_module_level(self):
        for path, tree in trees():
            names = defined(tree)
            self.assertEqual(len(names), len(set(names)), path.name)
            for place, node in enumerate(tree.body):
                docstring = place == 0 and isinstance(node, ast.Expr) and isinstance(node.value, ast.Constant)
                plain = isinstance(node, (ast.ImportFrom, ast.FunctionDef, ast.ClassDef, ast.Assign))
                self.assertTrue(docstring or plain, (path.name, node.lineno))


class CodeTest(unittest.TestCase):
    def test_barred_statements_and_operators(self):
        self.assertEqual([(path.name, node) for path, node in nodes(BARRED_NODES)], [])

    def test_builtins(self):
        for path, tree in trees():
            names = {node.id for node in ast.walk(tree) if isinstance(node, ast.Name) and isinstance(node.ctx, ast.Load)}
            self.assertEqual(names - bound(tree) - BUILTINS, set(), path.name)
            builtin = set(dir(__builtins__)) if not isinstance(__builtins__, dict) else set(__builtins__)
            methods = {node.name for _, node in nodes(ast.FunctionDef) if node.name.startswith("__")}
            self.assertEqual(bound(tree) & builtin - methods, set(), path.name)

    def test_methods(self):
        own = {node.name for _, node in nodes(ast.FunctionDef)}
        for path, node in nodes(ast.Call):
            if isinstance(node.func, ast.Attribute):
                self.assertIn(node.func.attr, own | METHODS, (path.name, node.lineno))
                value = node.func.value
                chained = isinstance(value, ast.Call) and getattr(value.func, "id", "") == "super"
                self.assertTrue(node.func.attr != "__init__" or chained, (path.name, node.lineno))

    def test_properties_are_not_called(self):
        found = {node.name for _, node in nodes(ast.FunctionDef) if decorator_of(node) == "property"}
        for path, node in nodes(ast.Call):
            if isinstance(node.func, ast.Attribute):
                self.assertNotIn(node.func.attr, found, (path.name, node.lineno))

    def test_special_methods_and_names(self):
        for path, node in nodes((ast.FunctionDef, ast.ClassDef)):
            self.assertFalse(node.name.startswith("__") and node.name not in SPECIAL, (path.name, node.name))
            self.assertIn([getattr(one, "id", "") for one in node.decorator_list], ([], ["property"], ["classmethod"]))
        for path, tree in trees():
            words = bound(tree) | {node.attr for node in ast.walk(tree) if isinstance(node, ast.Attribute)}
            self.assertEqual(words & BARRED_NAMES, set(), path.name)

    def test_barred_words(self):
        for path, tree in trees():
            kept = [re.sub(r"#.*", "", row) for row in ast.unparse(without_docstrings(tree)).split("\n")]
            self.assertEqual(set(re.findall(r"\w+", "\n".join(kept))) & BARRED_WORDS, set(), path.name)

    def test_powers_strings_and_floats(self):
        for path, node in nodes(ast.BinOp):
            if isinstance(node.op, ast.Pow):
                self.assertIsInstance(node.right, ast.Constant, (path.name, node.lineno))
        for path, node in nodes(ast.Constant):
            self.assertNotIsInstance(node.value, (float, bytes), (path.name, node.lineno))
            if isinstance(node.value, str):
                self.assertNotIn("%", node.value, (path.name, node.lineno))

    def test_local_names(self):
        for path, tree in trees():
            taken = {alias.name for node in tree.body if isinstance(node, ast.ImportFrom) for alias in node.names}
            taken |= {node.name for node in tree.body if isinstance(node, (ast.ClassDef, ast.FunctionDef))}
            for node in ast.walk(tree):
                if isinstance(node, ast.FunctionDef):
                    self.assertEqual(local_names(node) & taken, set(), (path.name, node.name))

    def test_properties_methods_and_attributes_apart(self):
        functions = [node for _, owner in nodes(ast.ClassDef) for node in owner.body if isinstance(node, ast.FunctionDef)]
        assigned = {node.attr for _, node in nodes(ast.Attribute) if not isinstance(node.ctx, ast.Load)}
        read = {node.attr for _, node in nodes(ast.Attribute) if isinstance(node.ctx, ast.Load)}
        self.assertEqual({node.name for node in functions} & assigned, set())
        properties = {node.name for node in functions if decorator_of(node) == "property"}
        self.assertEqual(properties & {node.name for node in functions if decorator_of(node) != "property"}, set())
        shared = {node.name for node in functions if decorator_of(node) == "classmethod"}
        self.assertEqual(shared & {node.name for node in functions if decorator_of(node) != "classmethod"}, set())
        self.assertEqual(read - assigned - {node.name for node in functions} - METHODS, set())

    def test_items_are_not_iterated(self):
        for path, node in nodes(ast.ClassDef):
            methods = [one.name for one in node.body if isinstance(one, ast.FunctionDef)]
            self.assertEqual("__getitem__" in methods, "__iter__" in methods, (path.name, node.name))

    def test_sets_and_views(self):
        for path, tree in trees():
            parents = {child: node for node in ast.walk(tree) for child in ast.iter_child_nodes(node)}
            for node in ast.walk(tree):
                if isinstance(node, ast.Call) and getattr(node.func, "id", "") == "set":
                    self.assertIn(getattr(getattr(parents[node], "func", None), "id", ""), ("sorted", "len"), path.name)
                if isinstance(node, ast.Call) and getattr(node.func, "attr", "") in ("items", "keys", "values"):
                    parent = parents[node]
                    walked = isinstance(parent, (ast.For, ast.comprehension)) and parent.iter is node
                    self.assertTrue(walked or getattr(parent.func, "id", "") in ("list", "sorted"), (path.name, node.lineno))
            self.assertFalse([node for node in ast.walk(tree) if isinstance(node, (ast.Set, ast.SetComp))], path.name)

    def test_errors_are_made_on_the_spot(self):
        for path, node in nodes(ast.Raise):
            made = isinstance(node.exc, ast.Call) and isinstance(node.exc.func, ast.Name)
            self.assertTrue(made and node.exc.func.id[0].isupper(), (path.name, node.lineno))
            cause = node.cause
            self.assertTrue(cause is None or (isinstance(cause, ast.Constant) and cause.value is None), path.name)

    def test_ends_of_blocks_only_assign(self):
        plain = (ast.FunctionDef, ast.arguments, ast.arg, ast.If, ast.Assign, ast.Attribute, ast.Name, ast.expr_context)
        for path, node in nodes(ast.FunctionDef):
            if node.name == "__exit__":
                self.assertEqual([one.arg for one in node.args.args], ["self", "kind", "value", "trace"])
                tests = [one.test for one in ast.walk(node) if isinstance(one, ast.If)]
                asked = [part for test in tests for part in ast.walk(test)]
                for one in ast.walk(node):
                    self.assertTrue(one in asked or isinstance(one, plain), (path.name, node.lineno))

    def test_ends_of_blocks_only_ask_for_none(self):
        for path, node in nodes(ast.FunctionDef):
            if node.name == "__exit__":
                for one in ast.walk(node):
                    if isinstance(one, ast.If):
                        self.assertTrue(asks_for_none(one.test), (path.name, one.lineno))

    def test_what_asks_for_none(self):
        for text in ("box is None", "self.held is not None", "not self.box.held is None", "kind is None or a.b is None",
                     "not (a is None and (b is not None or c.d is None))"):
            self.assertTrue(asks_for_none(ast.parse(text, mode="eval").body), text)
        for text in ("self.held", "not self.held", "kind", "self.held is True", "self.held == None", "self.held == 0",
                     "a is None and self.held", "a is None or not b", "a is b is None", "self.held() is None",
                     "rows[0] is None", "None is None", "-(a is None)", "True"):
            self.assertFalse(asks_for_none(ast.parse(text, mode="eval").body), text)

    def test_classes_of_class_methods_are_only_called(self):
        for path, node in nodes(ast.FunctionDef):
            if decorator_of(node) == "classmethod":
                called = {one.func for one in ast.walk(node) if isinstance(one, ast.Call)}
                for one in ast.walk(node):
                    if isinstance(one, ast.Name) and one.id == "cls":
                        self.assertIn(one, called, (path.name, node.lineno))

    def test_quantifiers_take_lists(self):
        for path, node in nodes(ast.GeneratorExp):
            self.fail((path.name, node.lineno))

    def test_handlers_name_errors(self):
        for path, node in nodes(ast.ExceptHandler):
            self.assertIsNotNone(node.type, (path.name, node.lineno))


def without_docstrings(tree):
    for node in ast.walk(tree):
        body = getattr(node, "body", None)
        if isinstance(body, list) and body and isinstance(body[0], ast.Expr) and isinstance(body[0].value, ast.Constant):
            body[0].value.value = ""
    return tree


if __name__ == "__main__":
    unittest.main()
