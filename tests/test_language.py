"""Rules of the language subset that a test can see: files, sizes, characters, imports and numbers."""

import ast
import builtins
import re
import unittest
from pathlib import Path

PACKAGE = Path(__file__).resolve().parent.parent / "dueways"
FILES = sorted(PACKAGE.rglob("*.py"))
LIBRARY = {"heapq", "math", "itertools", "collections"}
BARRED = {"register", "mro", "elements", "open", "input", "law", "type", "typing", "enum", "Enum", "Flag", "Generic",
          "Protocol", "ABC", "exec", "eval", "exit", "id", "vars", "dir", "help", "compile", "os", "sys", "super"}
# The examples, which doctest runs, leave their last value among the builtins as `_`.
BUILTINS = set(dir(builtins)) - {"_"}
ALLOWED_METHODS = set("""append clear copy count endswith extend find get index insert isalnum isalpha isdigit islower
    isspace isupper items join keys ljust lower lstrip partition pop remove replace reverse rfind rjust rpartition rsplit
    rstrip setdefault split splitlines startswith strip update upper values zfill bit_length""".split())
BUILTIN_METHODS = {name for made in (str, list, dict, set, int, bytes, tuple) for name in dir(made)}


class TestLanguage(unittest.TestCase):
    def trees(self):
        """Return the list of (file, text, tree) of all files of the package."""
        self.assertGreater(len(FILES), 0)
        return [(path.name, path.read_text("utf-8"), ast.parse(path.read_text("utf-8"))) for path in FILES]

    def test_files_and_lines(self):
        for name, text, _ in self.trees():
            lines = text.split("\n")
            self.assertLessEqual(len(lines), 400, name)
            for number, line in enumerate(lines, start=1):
                self.assertLessEqual(len(line), 120, (name, number))
                self.assertTrue(all(" " <= sign <= "~" for sign in line), (name, number))

    def test_sizes_of_functions(self):
        for name, _, tree in self.trees():
            for node in ast.walk(tree):
                if isinstance(node, ast.FunctionDef):
                    self.assertLessEqual(node.end_lineno - node.lineno + 1, 40, (name, node.name))

    def test_imports(self):
        for name, _, tree in self.trees():
            for node in ast.walk(tree):
                self.assertNotIsInstance(node, ast.Import, name)
                if isinstance(node, ast.ImportFrom):
                    self.assertIn(node, tree.body, name)
                    self.assertEqual(node.level, 0, name)
                    root, _, rest = node.module.partition(".")
                    self.assertTrue(node.module in LIBRARY or (root == "dueways" and rest), (name, node.module))

    def test_no_floats_and_no_signs_of_formats(self):
        for name, _, tree in self.trees():
            for node in ast.walk(tree):
                self.assertNotIsInstance(node, (ast.Div, ast.Global, ast.AsyncFunctionDef, ast.GeneratorExp), name)
                if isinstance(node, ast.Constant):
                    self.assertNotIsInstance(node.value, (float, complex), name)
                    if isinstance(node.value, str):
                        self.assertNotIn("%", node.value, name)

    def test_names(self):
        for name, _, tree in self.trees():
            taken = {node.name for node in tree.body if isinstance(node, ast.ClassDef)}
            taken |= {one.name for node in tree.body if isinstance(node, ast.ImportFrom) for one in node.names}
            for node in ast.walk(tree):
                if isinstance(node, ast.arg):
                    bound = node.arg
                elif isinstance(node, ast.Name) and isinstance(node.ctx, ast.Store):
                    bound = node.id
                elif isinstance(node, ast.FunctionDef):
                    bound = node.name
                    if node not in tree.body:
                        continue
                else:
                    continue
                self.assertNotIn(bound, taken, name)
                self.assertNotIn(bound, BUILTINS, name)
                self.assertNotIn(bound, BARRED, name)

    def test_barred_words(self):
        for name, _, tree in self.trees():
            for node in ast.walk(tree):
                words = [getattr(node, "id", None), getattr(node, "attr", None), getattr(node, "arg", None)]
                self.assertFalse(BARRED & {word for word in words if isinstance(word, str)}, name)
                if isinstance(node, ast.Attribute):
                    self.assertIsNone(re.match("_(wall|pe_|dcw_|enum_|cm_|twin_re_|lay_|law_|stub_|sre|WallAttr|cold|"
                                               "tuplegetter|outside|record|written_out|member_names)", node.attr), name)

    def test_properties_methods_and_attributes(self):
        properties, methods, attributes = {}, {}, {}
        for _, _, tree in self.trees():
            for made in [node for node in tree.body if isinstance(node, ast.ClassDef)]:
                for node in made.body:
                    if isinstance(node, ast.FunctionDef):
                        is_property = any(getattr(one, "id", "") == "property" for one in node.decorator_list)
                        (properties if is_property else methods).setdefault(node.name, []).append(made.name)
            for node in ast.walk(tree):
                if isinstance(node, ast.Attribute) and isinstance(node.ctx, ast.Store):
                    attributes[node.attr] = True
        self.assertFalse(set(properties) & set(methods))
        self.assertFalse(set(properties) & BUILTIN_METHODS)
        self.assertFalse(set(properties) & set(attributes))
        self.assertFalse(set(methods) & set(attributes))

    def test_methods_that_are_called(self):
        own = {node.name for _, _, tree in self.trees() for node in ast.walk(tree)
               if isinstance(node, (ast.FunctionDef, ast.ClassDef))}
        for name, _, tree in self.trees():
            for node in ast.walk(tree):
                if isinstance(node, ast.Call) and isinstance(node.func, ast.Attribute):
                    self.assertIn(node.func.attr, own | ALLOWED_METHODS, (name, node.lineno))

    def test_local_names_and_those_of_the_file(self):
        for name, _, tree in self.trees():
            outer = {one.name for node in tree.body if isinstance(node, ast.ImportFrom) for one in node.names}
            used = {node.id for node in ast.walk(tree) if isinstance(node, ast.Name)}
            self.assertFalse(outer - used, (name, "imported, not used"))
            outer |= {node.name for node in tree.body if isinstance(node, (ast.FunctionDef, ast.ClassDef))}
            for made in [node for node in ast.walk(tree) if isinstance(node, ast.FunctionDef)]:
                local = {one.arg for one in made.args.args + made.args.kwonlyargs}
                local |= {node.id for node in ast.walk(made)
                          if isinstance(node, ast.Name) and isinstance(node.ctx, ast.Store)}
                self.assertFalse(local & outer, (name, made.name))

    def test_no_files_import_from_each_other(self):
        found = {name: {node.module.split(".")[-1] + ".py" for node in tree.body if isinstance(node, ast.ImportFrom)}
                 for name, _, tree in self.trees()}
        done = []
        while len(done) < len(found):
            free = [name for name in found if name not in done and not found[name] & (set(found) - set(done))]
            self.assertTrue(free, sorted(set(found) - set(done)))
            done += free

    def test_what_is_caught(self):
        own = {node.name for _, _, tree in self.trees() for node in ast.walk(tree) if isinstance(node, ast.ClassDef)}
        for name, _, tree in self.trees():
            for node in ast.walk(tree):
                if isinstance(node, ast.ExceptHandler):
                    told = node.type.elts if isinstance(node.type, ast.Tuple) else [node.type]
                    self.assertFalse({one.id for one in told} - own, name)
                self.assertNotIsInstance(node, (ast.With, ast.Match, ast.Nonlocal, ast.NamedExpr, ast.Yield), name)

    def test_comparisons_by_is(self):
        for name, _, tree in self.trees():
            for node in ast.walk(tree):
                if isinstance(node, ast.Compare) and any(isinstance(one, (ast.Is, ast.IsNot)) for one in node.ops):
                    self.assertIsInstance(node.comparators[0], ast.Constant, name)

    def test_sets_are_only_sorted(self):
        for name, _, tree in self.trees():
            fine = [node.args[0] for node in ast.walk(tree) if isinstance(node, ast.Call) and node.args
                    and getattr(node.func, "id", "") in ("sorted", "len")]
            for node in ast.walk(tree):
                is_set = isinstance(node, (ast.Set, ast.SetComp)) or (
                    isinstance(node, ast.Call) and getattr(node.func, "id", "") in ("set", "frozenset"))
                self.assertTrue(not is_set or node in fine, name)


if __name__ == "__main__":
    unittest.main()
