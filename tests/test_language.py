"""The rules of the language that are easily told from the code: files, sizes, imports, names, methods, loops, sets."""

import ast
import builtins
import pathlib
import unittest

PACKAGE = pathlib.Path(__file__).resolve().parent.parent / "drawnorders"

LIBRARY = {
    "heapq": ["heappush", "heappop", "heapify", "heapreplace", "heappushpop"],
    "math": ["gcd", "lcm", "isqrt", "comb", "perm", "factorial"],
    "itertools": ["product", "combinations", "permutations", "chain", "accumulate", "pairwise", "islice",
                  "zip_longest"],
    "collections": ["defaultdict", "deque"],
}
BARRED = {
    "register", "mro", "elements", "open", "input", "law", "eval", "exec", "globals", "locals", "vars",
    "dir", "id", "hash", "help", "exit", "quit", "super", "compile", "print", "chr", "filter", "float",
    "object", "round", "format", "hex", "bin", "oct", "callable", "delattr", "slice", "complex"}
BARRED_NODES = (
    ast.Global, ast.AsyncFunctionDef, ast.AsyncFor, ast.AsyncWith, ast.Await, ast.Import, ast.Div, ast.MatMult)
METHODS = set("""append clear copy count endswith extend find get index insert isalnum isalpha isdigit islower isspace
    isupper items join keys ljust lower lstrip partition pop remove replace reverse rfind rjust rpartition rsplit rstrip
    setdefault split splitlines startswith strip update upper values zfill bit_length sort add discard""".split())
CHANGING = {"append", "clear", "extend", "insert", "pop", "remove", "reverse", "setdefault", "update", "sort", "add",
            "discard"}
ON_THE_SPOT = {"zip", "enumerate", "reversed"}
TAKE_THEM = {"list", "tuple", "dict", "sorted", "sum", "any", "all", "enumerate", "zip"}
KEYWORDS = {"sorted": {"key", "reverse"}, "min": {"key", "default"}, "max": {"key", "default"}, "sum": {"start"},
            "enumerate": {"start"}, "zip": {"strict"}}


def files():
    return sorted(path for path in PACKAGE.rglob("*") if "__pycache__" not in path.parts)


def names_in(tree):
    for node in ast.walk(tree):
        if isinstance(node, ast.Name):
            yield node.id
        elif isinstance(node, ast.arg):
            yield node.arg
        elif isinstance(node, (ast.FunctionDef, ast.ClassDef)):
            yield node.name
        elif isinstance(node, ast.alias):
            yield node.name.split(".")[-1]


def root(node):
    """The name off which an item or an attribute is read, or None."""
    while isinstance(node, (ast.Attribute, ast.Subscript)):
        node = node.value
    return node.id if isinstance(node, ast.Name) else None


def changed_and_got(node):
    """The name of what a statement or a call adds to, and the names in what is added."""
    got = []
    changed = None
    if isinstance(node, ast.AugAssign):
        changed, got = root(node.target), [node.value]
    elif isinstance(node, ast.Call) and isinstance(node.func, ast.Attribute):
        if node.func.attr in ("extend", "update"):
            changed, got = root(node.func), node.args
    return changed, {name for one in got for name in names_in(one)}


def trees():
    """The syntax trees of all files, in which each node knows what it stands in."""
    for path in files():
        tree = ast.parse(path.read_text())
        for node in ast.walk(tree):
            for child in ast.iter_child_nodes(node):
                child.parent = node
        yield path, tree


def own_methods():
    return {node.name for path, tree in trees() for one in ast.walk(tree) if isinstance(one, ast.ClassDef)
            for node in one.body if isinstance(node, ast.FunctionDef)}


def called(node):
    """The name by which a node calls a function, or None."""
    return node.func.id if isinstance(node, ast.Call) and isinstance(node.func, ast.Name) else None


def is_iterated(node):
    """True if a call stands where it is iterated at once."""
    parent = node.parent
    if isinstance(parent, (ast.For, ast.comprehension)):
        return parent.iter is node
    return called(parent) in TAKE_THEM and parent.args[0] is node


def changes(node, name):
    """True if a statement or a call changes what has a name."""
    if isinstance(node, ast.AugAssign):
        return root(node.target) == name
    if isinstance(node, (ast.Assign, ast.Delete)):
        return any(not isinstance(one, ast.Name) and root(one) == name for one in node.targets)
    if isinstance(node, ast.Call) and isinstance(node.func, ast.Attribute):
        return node.func.attr in CHANGING and root(node.func) == name
    return False


def choices(node):
    """The names that an expression may be, by itself, by a field or an item of it, or by a choice."""
    if isinstance(node, ast.IfExp):
        return choices(node.body) | choices(node.orelse)
    if isinstance(node, ast.BoolOp):
        return {name for value in node.values for name in choices(value)}
    if isinstance(node, ast.Subscript) and isinstance(node.slice, ast.Slice):
        return set()
    return {root(node)} - {None}


def walked(node):
    """The names of what a loop goes over, straight or through zip and the like, but not as a copy."""
    views = isinstance(node, ast.Call) and isinstance(node.func, ast.Attribute)
    if views and node.func.attr in ("items", "keys", "values"):
        return choices(node.func.value)
    if called(node) in ON_THE_SPOT:
        return {name for one in node.args for name in walked(one)}
    return choices(node)


def shared(scope):
    """The sets of two or more names that some assignments of a function may give to one value."""
    given = []
    for node in ast.walk(scope):
        if isinstance(node, ast.Assign):
            for target in node.targets:
                both = isinstance(target, ast.Tuple) and isinstance(node.value, ast.Tuple)
                twos = zip(target.elts, node.value.elts) if both else [(target, node.value)]
                given += [{root(one)} | choices(other) for one, other in twos if choices(other)]
    return given


def other_names(scope, names):
    """The names, and all others that may stand for the same values."""
    found = set(names)
    for _ in shared(scope):
        found = found.union(*[some for some in shared(scope) if some & found])
    return found


def changed_walks(scope):
    """The lines of the loops of a function that change what they go over, by any of its names."""
    found = []
    for node in ast.walk(scope):
        if isinstance(node, ast.For):
            names = other_names(scope, walked(node.iter))
            inner = [one for part in node.body for one in ast.walk(part)]
            found += [node.lineno for name in names if any(changes(one, name) for one in inner)]
    return found


class LanguageTest(unittest.TestCase):

    def test_only_python_files(self):
        for path in files():
            self.assertTrue(path.is_dir() or path.suffix == ".py", path)

    def test_files_lines_and_characters(self):
        for path in files():
            text = path.read_text(encoding="utf-8")
            lines = text.split("\n")
            self.assertLessEqual(len(lines), 399, path)
            self.assertLessEqual(max(map(len, lines)), 120, path)
            self.assertTrue(all(c == "\n" or " " <= c <= "~" for c in text), path)

    def test_functions_are_small(self):
        for path in files():
            for node in ast.walk(ast.parse(path.read_text())):
                if isinstance(node, ast.FunctionDef):
                    self.assertLessEqual(node.end_lineno - node.lineno + 1, 40, (path, node.name))

    def test_imports(self):
        for path in files():
            for node in ast.walk(ast.parse(path.read_text())):
                if isinstance(node, ast.ImportFrom):
                    self.check_import(node)

    def check_import(self, node):
        self.assertEqual(node.level, 0)
        for alias in node.names:
            if node.module in LIBRARY:
                self.assertIn(alias.name, LIBRARY[node.module])
                self.assertIsNone(alias.asname)
            else:
                home = PACKAGE.parent / (node.module.replace(".", "/") + ".py")
                self.assertEqual(node.module.split(".")[0], "drawnorders")
                bound = [getattr(one, "name", None) for one in ast.parse(home.read_text()).body]
                bound += [one.targets[0].id for one in ast.parse(home.read_text()).body
                          if isinstance(one, ast.Assign)]
                self.assertIn(alias.name, bound)

    def test_names_and_values(self):
        for path in files():
            tree = ast.parse(path.read_text())
            self.assertEqual(sorted(BARRED & set(names_in(tree))), [], path)
            for node in ast.walk(tree):
                self.assertNotIsInstance(node, BARRED_NODES, path)
                if isinstance(node, ast.Constant):
                    self.assertNotIsInstance(node.value, (float, complex), path)

    def test_what_stands_in_a_module(self):
        for path, tree in trees():
            for node in tree.body:
                told = isinstance(node, ast.Expr) and isinstance(node.value, ast.Constant)
                self.assertTrue(told or isinstance(node, (ast.ImportFrom, ast.FunctionDef, ast.ClassDef, ast.Assign)), path)

    def test_no_decorators_but_properties_and_no_annotations(self):
        for path, tree in trees():
            for node in ast.walk(tree):
                for decorator in getattr(node, "decorator_list", []):
                    self.assertEqual(ast.unparse(decorator), "property", path)
                self.assertIsNone(getattr(node, "annotation", None), path)
                self.assertIsNone(getattr(node, "returns", None), path)

    def test_is_stands_beside_none_true_and_false(self):
        for path, tree in trees():
            for node in ast.walk(tree):
                if isinstance(node, ast.Compare) and isinstance(node.ops[0], (ast.Is, ast.IsNot)):
                    self.assertIn(ast.unparse(node.comparators[0]), ("None", "True", "False"), (path, node.lineno))

    def test_methods_and_keywords(self):
        known = METHODS | own_methods()
        for path, tree in trees():
            for node in ast.walk(tree):
                if isinstance(node, ast.Call) and isinstance(node.func, ast.Attribute):
                    self.assertIn(node.func.attr, known, (path, node.lineno))
                if hasattr(builtins, called(node) or ""):
                    given = {keyword.arg for keyword in node.keywords}
                    self.assertLessEqual(given, KEYWORDS.get(called(node), set()), (path, node.lineno))

    def test_no_name_of_a_builtin_has_another_meaning(self):
        for path, tree in trees():
            for node in ast.walk(tree):
                name = None
                if isinstance(node, ast.Name) and not isinstance(node.ctx, ast.Load):
                    name = node.id
                elif isinstance(node, ast.arg):
                    name = node.arg
                elif isinstance(node, (ast.FunctionDef, ast.ClassDef)) and isinstance(node.parent, ast.Module):
                    name = node.name
                self.assertFalse(hasattr(builtins, name or ""), (path, name))

    def test_no_name_in_a_function_has_the_name_of_an_import_or_a_class(self):
        for path, tree in trees():
            barred = {alias.name for node in tree.body if isinstance(node, ast.ImportFrom) for alias in node.names}
            barred |= {node.name for node in tree.body if isinstance(node, ast.ClassDef)}
            for node in ast.walk(tree):
                if isinstance(node, ast.arg):
                    self.assertNotIn(node.arg, barred, path)
                elif isinstance(node, ast.Name) and not isinstance(node.ctx, ast.Load):
                    self.assertNotIn(node.id, barred, path)

    def test_what_is_iterated_at_once_is_not_kept(self):
        for path, tree in trees():
            for node in ast.walk(tree):
                views = isinstance(node, ast.Call) and isinstance(node.func, ast.Attribute)
                if called(node) in ON_THE_SPOT or (views and node.func.attr in ("items", "keys", "values")):
                    self.assertTrue(is_iterated(node), (path, node.lineno))

    def test_sets_are_not_iterated_or_passed_on(self):
        for path, tree in trees():
            for node in ast.walk(tree):
                if called(node) == "set" or isinstance(node, (ast.Set, ast.SetComp)):
                    parent = node.parent
                    stored = isinstance(parent, ast.Assign) and isinstance(parent.targets[0], ast.Name)
                    fits = stored or isinstance(parent, ast.Compare) or called(parent) in ("sorted", "len")
                    self.assertTrue(fits, (path, node.lineno))

    def test_what_a_loop_goes_over_is_not_changed_in_it(self):
        for path, tree in trees():
            for node in ast.walk(tree):
                if isinstance(node, ast.For):
                    for name in names_in(node.iter):
                        bad = [one.lineno for part in node.body for one in ast.walk(part) if changes(one, name)]
                        self.assertEqual(bad, [], (path, name))

    def test_what_a_loop_goes_over_is_not_changed_in_it_by_another_name(self):
        for path, tree in trees():
            for node in ast.walk(tree):
                if isinstance(node, ast.FunctionDef):
                    self.assertEqual(changed_walks(node), [], (path, node.name))

    def test_the_form_is_found_that_changes_what_a_loop_goes_over(self):
        # Each with a loop over XS, in which another one of the names is changed.
        bad = ("while xs:\n  ys = []\n  for x in XS:\n    ys.append(x)\n  xs = ys",
               "ys = xs\nfor x in XS:\n  ys[0] = x", "ys, zs = zs, xs\nfor x in XS:\n  ys.extend([x])",
               "ys = xs if zs else []\nfor x in XS:\n  del ys[x]", "ys = zs or xs\nfor x in XS:\n  ys.pop()",
               "ys = zs\nzs = xs\nfor x in XS:\n  ys += [x]", "ys = box.xs = xs\nfor x in XS:\n  ys.insert(0, x)",
               "ys = xs[0]\nfor x in XS:\n  ys.append(x)", "for x in XS:\n  xs.append(x)")
        for text in bad:
            for over, fits in (("xs", False), ("enumerate(xs)", False), ("zip(zs, xs)", False), ("xs if zs else ws", False),
                               ("xs.items()", False), ("list(xs)", True), ("xs[:]", True), ("sorted(xs)", True)):
                scope = ast.parse(text.replace("XS", over))
                for node in ast.walk(scope):
                    for child in ast.iter_child_nodes(node):
                        child.parent = node
                self.assertEqual(changed_walks(scope) == [], fits, text.replace("XS", over))

    def test_handlers_name_errors_of_the_program(self):
        own = {node.name for path, tree in trees() for node in ast.walk(tree) if isinstance(node, ast.ClassDef)}
        for path, tree in trees():
            for node in ast.walk(tree):
                if isinstance(node, ast.ExceptHandler):
                    self.assertIn(ast.unparse(node.type), own, (path, node.lineno))

    def test_no_circle_of_imports(self):
        ahead = {path.stem: {node.module.split(".")[-1] for node in tree.body if isinstance(node, ast.ImportFrom)}
                 for path, tree in trees()}
        for _ in range(len(ahead)):
            ahead = {name: some | {far for near in some for far in ahead.get(near, ())} for name, some in ahead.items()}
        self.assertEqual([name for name, some in ahead.items() if name in some], [])

    def test_no_string_has_a_percent_sign(self):
        for path, tree in trees():
            for node in ast.walk(tree):
                if isinstance(node, ast.Constant) and isinstance(node.value, str):
                    self.assertNotIn("%", node.value, path)

    def test_nothing_gets_what_it_changes(self):
        for path in files():
            for node in ast.walk(ast.parse(path.read_text())):
                changed, got = changed_and_got(node)
                self.assertNotIn(changed, got, (path, node))

    def test_the_form_is_found_that_gets_what_it_changes(self):
        for line in ("reached[low] |= reached[middle]", "xs += xs[1:]", "box.rows.extend(box.rows)", "d[1].update(d[2])"):
            found = [changed_and_got(node) for node in ast.walk(ast.parse(line))]
            self.assertTrue(any(changed in got for changed, got in found), line)


if __name__ == "__main__":
    unittest.main()
