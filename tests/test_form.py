"""What can be seen at once of the rules for the files of the package."""

import ast
import builtins
import pathlib
import unittest

FOLDER = pathlib.Path(__file__).resolve().parent.parent / "lookdown"
BUILTINS = set(
    "len range enumerate zip min max sum abs sorted reversed int str bool list tuple dict set isinstance ord repr "
    "any all divmod ValueError".split()
)
METHODS = set(
    "append clear copy count endswith extend find get index insert isalnum isalpha isdigit islower isspace isupper "
    "items join keys ljust lower lstrip partition pop remove replace reverse rfind rjust rpartition rsplit rstrip "
    "setdefault split splitlines startswith strip update upper values zfill bit_length isascii add discard".split()
)
LIBRARY = {"math": {"gcd", "lcm"}, "heapq": {"heappush", "heappop"}}
# A method may also have one of these names, though values of Python's own have it.
SHARED_NAMES = {"copy"}
NOT_USED = (
    ast.GeneratorExp,
    ast.Lambda,
    ast.Global,
    ast.Nonlocal,
    ast.With,
    ast.Match,
    ast.AsyncFunctionDef,
    ast.Await,
    ast.Yield,
    ast.YieldFrom,
    ast.Div,
    ast.MatMult,
    ast.AnnAssign,
)


def files():
    return sorted(FOLDER.glob("*.py"))


def trees():
    return [(file.name, ast.parse(file.read_text())) for file in files()]


def definitions(tree):
    return [node for node in tree.body if isinstance(node, (ast.FunctionDef, ast.ClassDef))]


def functions(tree):
    return [node for node in ast.walk(tree) if isinstance(node, ast.FunctionDef)]


def methods(tree):
    classes = [node for node in tree.body if isinstance(node, ast.ClassDef)]
    return [node for each in classes for node in each.body if isinstance(node, ast.FunctionDef)]


def bound_names(function):
    """The names of parameters and local variables."""
    names = [node.arg for node in ast.walk(function) if isinstance(node, ast.arg)]
    stored = [node for node in ast.walk(function) if isinstance(node, ast.Name) and isinstance(node.ctx, ast.Store)]
    return names + [node.id for node in stored]


def is_kept(node):
    """Whether a node is a name, an attribute off a name, a literal, or a list, tuple or dict of these."""
    if isinstance(node, (ast.List, ast.Tuple)):
        return all(is_kept(each) for each in node.elts)
    if isinstance(node, ast.Dict):
        return all(is_kept(each) for each in [*node.keys, *node.values])
    if isinstance(node, ast.Attribute):
        return isinstance(node.value, ast.Name)
    return isinstance(node, (ast.Name, ast.Constant))


def behind_stars(call):
    """What a call passes from its first star on, or all that it passes if it has a double star."""
    passed = [*call.args, *[each.value for each in call.keywords]]
    if all(each.arg is not None for each in call.keywords):
        while passed and not isinstance(passed[0], ast.Starred):
            del passed[0]
    return [each.value if isinstance(each, ast.Starred) else each for each in passed]


def rows_of_wrong_stars(tree):
    """The rows of the calls in which something has to be kept by a name ahead of a star."""
    calls = [node for node in ast.walk(tree) if isinstance(node, ast.Call)]
    return [call.lineno for call in calls if not all(is_kept(each) for each in behind_stars(call))]


class FormTest(unittest.TestCase):
    def test_the_folder_holds_files_of_python_alone(self):
        for file in FOLDER.iterdir():
            self.assertTrue(file.suffix == ".py" or file.name == "__pycache__", file.name)
            self.assertEqual(file.name, file.name.lower())

    def test_signs_and_lines(self):
        for file in files():
            text = file.read_text()
            self.assertTrue(all(sign == "\n" or " " <= sign <= "~" for sign in text), file.name)
            lines = text.split("\n")
            self.assertLess(len(lines), 400, file.name)
            self.assertLessEqual(max(len(line) for line in lines), 120, file.name)

    def test_functions_are_short(self):
        for name, tree in trees():
            for function in functions(tree):
                self.assertLessEqual(function.end_lineno - function.lineno + 1, 40, (name, function.name))

    def test_module_level(self):
        kinds = (ast.ImportFrom, ast.FunctionDef, ast.ClassDef, ast.Assign)
        for name, tree in trees():
            self.assertIsNotNone(ast.get_docstring(tree), name)
            for node in tree.body[1:]:
                self.assertIsInstance(node, kinds, name)
            for node in functions(tree):
                self.assertEqual(node.decorator_list, [], name)

    def test_imports(self):
        defined = {name: [node.name for node in definitions(tree)] for name, tree in trees()}
        imported = {}
        for name, tree in trees():
            imported[name] = []
            for node in ast.walk(tree):
                self.assertNotIsInstance(node, ast.Import, name)
                if isinstance(node, ast.ImportFrom) and node.module in LIBRARY:
                    self.assertEqual(node.level, 0, name)
                    for alias in node.names:
                        self.assertIn(alias.name, LIBRARY[node.module], name)
                        self.assertIsNone(alias.asname, name)
                elif isinstance(node, ast.ImportFrom):
                    package, _, file = node.module.partition(".")
                    self.assertEqual((package, node.level), ("lookdown", 0), name)
                    imported[name].append(file + ".py")
                    for alias in node.names:
                        self.assertIn(alias.name, defined[file + ".py"], name)
                        self.assertIsNone(alias.asname, name)
        while imported:
            free = [name for name in imported if not any(each in imported for each in imported[name])]
            self.assertNotEqual(free, [], "files import from each other")
            for name in free:
                del imported[name]

    def test_each_name_is_bound_once(self):
        for name, tree in trees():
            bound = [node.name for node in definitions(tree)]
            bound.extend(alias.name for node in tree.body if isinstance(node, ast.ImportFrom) for alias in node.names)
            self.assertEqual(len(set(bound)), len(bound), name)
            for function in functions(tree):
                self.assertEqual(set(bound_names(function)) & set(bound), set(), (name, function.name))
            for each in bound + [each for function in functions(tree) for each in bound_names(function)]:
                self.assertFalse(hasattr(builtins, each), (name, each))

    def test_what_is_not_used(self):
        for name, tree in trees():
            for node in ast.walk(tree):
                self.assertNotIsInstance(node, NOT_USED, name)

    def test_builtins(self):
        for name, tree in trees():
            for node in ast.walk(tree):
                if isinstance(node, ast.Name) and hasattr(builtins, node.id):
                    self.assertIn(node.id, BUILTINS, name)

    def test_methods_that_are_called(self):
        own = {node.name for _, tree in trees() for node in methods(tree)}
        self.assertEqual(own & METHODS, SHARED_NAMES)
        for name, tree in trees():
            for node in ast.walk(tree):
                if isinstance(node, ast.Call) and isinstance(node.func, ast.Attribute):
                    self.assertIn(node.func.attr, METHODS | own, name)

    def test_names_of_methods_and_attributes(self):
        for name, tree in trees():
            assigned = {
                node.attr
                for node in ast.walk(tree)
                if isinstance(node, ast.Attribute) and isinstance(node.ctx, ast.Store)
            }
            self.assertEqual(assigned & {node.name for node in methods(tree)}, set(), name)
            for node in methods(tree):
                if not node.name.startswith("__") and node.name not in SHARED_NAMES:
                    for kind in (str, bytes, int, list, tuple, dict, set):
                        self.assertFalse(hasattr(kind, node.name), (name, node.name))

    def test_attributes_that_are_read_are_assigned(self):
        nodes = [node for _, tree in trees() for node in ast.walk(tree) if isinstance(node, ast.Attribute)]
        assigned = {node.attr for node in nodes if isinstance(node.ctx, ast.Store)}
        own = {node.name for _, tree in trees() for node in methods(tree)}
        for node in nodes:
            self.assertIn(node.attr, assigned | own | METHODS)

    def test_errors_that_are_caught_are_own_ones(self):
        own = {node.name for name, tree in trees() if name == "errors.py" for node in definitions(tree)}
        for name, tree in trees():
            for node in ast.walk(tree):
                if isinstance(node, ast.Try):
                    self.assertEqual(node.finalbody, [], name)
                    for handler in node.handlers:
                        self.assertIsInstance(handler.type, ast.Name, name)
                        self.assertIn(handler.type.id, own, name)
                if isinstance(node, ast.Raise):
                    self.assertIsInstance(node.exc, ast.Call, name)
                    self.assertIn(node.exc.func.id, own, name)

    def test_constants(self):
        for name, tree in trees():
            for node in ast.walk(tree):
                if isinstance(node, ast.Constant):
                    self.assertNotIsInstance(node.value, (float, complex), name)
                    if isinstance(node.value, str):
                        self.assertNotIn("%", node.value, name)

    def test_sameness_is_asked_of_none_alone(self):
        for name, tree in trees():
            for node in ast.walk(tree):
                if isinstance(node, ast.Compare):
                    for sign, right in zip(node.ops, node.comparators):
                        if isinstance(sign, (ast.Is, ast.IsNot)):
                            self.assertTrue(isinstance(right, ast.Constant) and right.value is None, name)

    def test_calls_pass_what_is_taken(self):
        for name, tree in trees():
            counts = {node.name: len(node.args.args) for node in tree.body if isinstance(node, ast.FunctionDef)}
            for node in ast.walk(tree):
                if isinstance(node, ast.Call) and isinstance(node.func, ast.Name) and node.func.id in counts:
                    self.assertEqual((len(node.args), node.keywords), (counts[node.func.id], []), name)

    def test_what_stands_behind_a_star_in_a_call(self):
        for name, tree in trees():
            self.assertEqual(rows_of_wrong_stars(tree), [], name)

    def test_wrong_stars_are_seen(self):
        wrong = [
            "Book(*book_parts(lines))",
            "Book(*book_parts(text.split('\\n')))",
            "f(*xs, g(k))",
            "f(*xs, many=g(k))",
            "f(*xs, *g(k))",
            "f(*box.told())",
            "f(*box.inner.rows)",
            "f(*xs[1:])",
            "f(*xs + ys)",
            "f(*[x for x in xs])",
            "f(*[g(k)])",
            "f(*(k, (g(k),)))",
            "f(*[*xs])",
            "f(*{'a': g(k)})",
            "f(*{**d})",
            "f(**g(k))",
            "f(g(k), **d)",
            "g([h(*f(k))])",
            "box.put(*f(k))",
        ]
        for text in wrong:
            self.assertEqual(rows_of_wrong_stars(ast.parse("\n" + text)), [2], text)
        right = [
            "f(*xs)",
            "f(k, *xs)",
            "f(*xs, n, sep=n)",
            "f(g(k), *xs)",
            "f(*box.rows)",
            "f(*'ab')",
            "f(*[k, 1, (box.n, None)], {'a': k})",
            "f(**d)",
            "f(k, **box.d)",
            "f([*g(k)])",
            "f(g(k), many=h(k))",
        ]
        for text in right:
            self.assertEqual(rows_of_wrong_stars(ast.parse(text)), [], text)


if __name__ == "__main__":
    unittest.main()
