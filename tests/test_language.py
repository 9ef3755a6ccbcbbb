"""The rules of the language that are easily told from the code: files, sizes, imports, names, methods."""

import ast
import pathlib
import unittest

PACKAGE = pathlib.Path(__file__).resolve().parent.parent / "drawnorders"

LIBRARY = {
    "heapq": ["heappush", "heappop", "heapify", "heapreplace", "heappushpop"],
    "math": ["gcd", "lcm", "isqrt", "comb", "perm", "factorial"],
    "itertools": ["product", "combinations", "permutations", "chain", "accumulate", "pairwise", "islice",
                  "zip_longest"],
    "collections": ["defaultdict", "deque"],
}
BARRED = {
    "register", "mro", "elements", "open", "input", "law", "eval", "exec", "globals", "locals", "vars",
    "dir", "id", "hash", "help", "exit", "quit", "super", "compile", "print", "chr", "filter", "float",
    "object", "round", "format", "hex", "bin", "oct", "callable", "delattr", "slice", "complex"}
BARRED_NODES = (
    ast.Global, ast.AsyncFunctionDef, ast.AsyncFor, ast.AsyncWith, ast.Await, ast.Import, ast.Div, ast.MatMult)


def files():
    return sorted(path for path in PACKAGE.rglob("*") if "__pycache__" not in path.parts)


def names_in(tree):
    for node in ast.walk(tree):
        if isinstance(node, ast.Name):
            yield node.id
        elif isinstance(node, ast.arg):
            yield node.arg
        elif isinstance(node, (ast.FunctionDef, ast.ClassDef)):
            yield node.name
        elif isinstance(node, ast.alias):
            yield node.name.split(".")[-1]


def root(node):
    """The name off which an item or an attribute is read, or None."""
    while isinstance(node, (ast.Attribute, ast.Subscript)):
        node = node.value
    return node.id if isinstance(node, ast.Name) else None


def changed_and_got(node):
    """The name of what a statement or a call adds to, and the names in what is added."""
    got = []
    changed = None
    if isinstance(node, ast.AugAssign):
        changed, got = root(node.target), [node.value]
    elif isinstance(node, ast.Call) and isinstance(node.func, ast.Attribute):
        if node.func.attr in ("extend", "update"):
            changed, got = root(node.func), node.args
    return changed, {name for one in got for name in names_in(one)}


class LanguageTest(unittest.TestCase):

    def test_only_python_files(self):
        for path in files():
            self.assertTrue(path.is_dir() or path.suffix == ".py", path)

    def test_files_lines_and_characters(self):
        for path in files():
            text = path.read_text(encoding="utf-8")
            lines = text.split("\n")
            self.assertLessEqual(len(lines), 399, path)
            self.assertLessEqual(max(map(len, lines)), 120, path)
            self.assertTrue(all(c == "\n" or " " <= c <= "~" for c in text), path)

    def test_functions_are_small(self):
        for path in files():
            for node in ast.walk(ast.parse(path.read_text())):
                if isinstance(node, ast.FunctionDef):
                    self.assertLessEqual(node.end_lineno - node.lineno + 1, 40, (path, node.name))

    def test_imports(self):
        for path in files():
            for node in ast.walk(ast.parse(path.read_text())):
                if isinstance(node, ast.ImportFrom):
                    self.check_import(node)

    def check_import(self, node):
        self.assertEqual(node.level, 0)
        for alias in node.names:
            if node.module in LIBRARY:
                self.assertIn(alias.name, LIBRARY[node.module])
                self.assertIsNone(alias.asname)
            else:
                home = PACKAGE.parent / (node.module.replace(".", "/") + ".py")
                self.assertEqual(node.module.split(".")[0], "drawnorders")
                bound = [getattr(one, "name", None) for one in ast.parse(home.read_text()).body]
                bound += [one.targets[0].id for one in ast.parse(home.read_text()).body
                          if isinstance(one, ast.Assign)]
                self.assertIn(alias.name, bound)

    def test_names_and_values(self):
        for path in files():
            tree = ast.parse(path.read_text())
            self.assertEqual(sorted(BARRED & set(names_in(tree))), [], path)
            for node in ast.walk(tree):
                self.assertNotIsInstance(node, BARRED_NODES, path)
                if isinstance(node, ast.Constant):
                    self.assertNotIsInstance(node.value, (float, complex), path)

    def test_nothing_gets_what_it_changes(self):
        for path in files():
            for node in ast.walk(ast.parse(path.read_text())):
                changed, got = changed_and_got(node)
                self.assertNotIn(changed, got, (path, node))

    def test_the_form_is_found_that_gets_what_it_changes(self):
        for line in ("reached[low] |= reached[middle]", "xs += xs[1:]", "box.rows.extend(box.rows)", "d[1].update(d[2])"):
            found = [changed_and_got(node) for node in ast.walk(ast.parse(line))]
            self.assertTrue(any(changed in got for changed, got in found), line)


if __name__ == "__main__":
    unittest.main()
