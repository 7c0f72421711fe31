"""Rules of the language that a look through the files of the package can show: L1, L2, L7, L10, L14."""

import ast
import builtins
import pathlib
import unittest

PACKAGE = pathlib.Path(__file__).resolve().parent.parent / "causaleffects"
LIBRARY = {
    "heapq": {"heappush", "heappop", "heapify", "heapreplace", "heappushpop"},
    "math": {"gcd", "lcm", "isqrt", "comb", "perm", "factorial"},
}


def files():
    """The files of the package: names and texts."""
    for path in sorted(PACKAGE.glob("*.py")):
        yield path.name, path.read_text(encoding="utf-8")


def nodes(text, *kinds):
    """The parts of these kinds in a text of Python."""
    return [node for node in ast.walk(ast.parse(text)) if isinstance(node, kinds)]


class Language(unittest.TestCase):
    def test_the_folder_holds_files_of_python_alone(self):
        held = sorted(path.name for path in PACKAGE.iterdir() if path.name != "__pycache__")
        self.assertEqual(held, [name for name, _ in files()])
        self.assertIn("__init__.py", held)

    def test_no_star_in_the_brackets_of_a_subscript(self):
        for name, text in files():
            for node in nodes(text, ast.Subscript):
                stars = [one for one in ast.walk(node.slice) if isinstance(one, ast.Starred)]
                self.assertEqual(stars, [], f"{name}:{node.lineno}")

    def test_sizes(self):
        for name, text in files():
            lines = text.split("\n")
            self.assertLess(len(lines), 400, name)
            self.assertLessEqual(max(len(line) for line in lines), 120, name)
            for node in nodes(text, ast.FunctionDef, ast.Lambda):
                self.assertLessEqual(node.end_lineno - node.lineno + 1, 40, f"{name}:{node.lineno}")

    def test_signs(self):
        for name, text in files():
            self.assertEqual({sign for sign in text if not " " <= sign <= "~"} - {"\n"}, set(), name)

    def test_imports(self):
        for name, text in files():
            self.assertEqual(nodes(text, ast.Import), [], name)
            for node in nodes(text, ast.ImportFrom):
                names = {one.name for one in node.names}
                self.assertEqual([one.asname for one in node.names], [None] * len(node.names), name)
                if node.module in LIBRARY:
                    self.assertLessEqual(names, LIBRARY[node.module], name)
                else:
                    package, _, module = node.module.partition(".")
                    self.assertEqual(package, "causaleffects", name)
                    inner = ast.parse((PACKAGE / f"{module}.py").read_text(encoding="utf-8")).body
                    made = {one.name for one in inner if isinstance(one, (ast.FunctionDef, ast.ClassDef))}
                    made |= {one.targets[0].id for one in inner if isinstance(one, ast.Assign)}
                    self.assertLessEqual(names, made, name)

    def test_names(self):
        # No name is that of an import of its file, nor that of a builtin.
        for name, text in files():
            imported = {one.name for node in nodes(text, ast.ImportFrom) for one in node.names}
            bound = {node.id for node in nodes(text, ast.Name) if isinstance(node.ctx, ast.Store)}
            bound |= {node.arg for node in nodes(text, ast.arg)}
            self.assertEqual(imported & bound, set(), name)
            made = {node.name for node in nodes(text, ast.FunctionDef, ast.ClassDef)}
            self.assertEqual((made | bound) & set(dir(builtins)) - {"__init__"}, set(), name)

    def test_no_two_files_import_from_each_other(self):
        heads = {name[:-3]: {node.module.partition(".")[2] for node in nodes(text, ast.ImportFrom)} for name, text in files()}
        while heads:
            free = [name for name, wanted in heads.items() if not wanted & set(heads)]
            self.assertNotEqual(free, [], heads)
            for name in free:
                del heads[name]

    def test_no_floats_and_no_slash(self):
        for name, text in files():
            self.assertEqual(nodes(text, ast.Div), [], name)
            self.assertEqual([node.value for node in nodes(text, ast.Constant) if isinstance(node.value, float)], [], name)


if __name__ == "__main__":
    unittest.main()
