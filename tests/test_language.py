"""Rules of the language that a look through the files of the package can show.

These are L1, L2, L3, L7, L8, L10, L14 to L18, L23 and L25.
"""

import ast
import builtins
import pathlib
import unittest

PACKAGE = pathlib.Path(__file__).resolve().parent.parent / "causaleffects"
LIBRARY = {
    "heapq": {"heappush", "heappop", "heapify", "heapreplace", "heappushpop"},
    "math": {"gcd", "lcm", "isqrt", "comb", "perm", "factorial"},
}

BUILTINS = set("""len range enumerate zip min max sum abs sorted reversed int str bool bytes list tuple dict set frozenset isinstance
ord repr any all divmod Exception ValueError TypeError KeyError IndexError LookupError type""".split())
METHODS = set("""append clear copy count endswith extend find get index insert isalnum isalpha isdigit islower isspace isupper items
join keys ljust lower lstrip partition pop remove replace reverse rfind rjust rpartition rsplit rstrip setdefault split splitlines
startswith strip update upper values zfill bit_length""".split())
BARRED = set("""mro elements open input law version_info with_traceback add_note register attrgetter breakpoint builtins compile
copyright credits delattr dir eval exec exit gc getattr globals hasattr help id importlib license locals methodcaller os quit
setattr super vars sys typing enum dataclass overload contextmanager namedtuple iter next""".split())
CHANGING = {"append", "clear", "extend", "insert", "pop", "remove", "reverse", "setdefault", "update", "sort"}


def gone_over(node):
    """What a loop goes over, as text: also through enumerate, zip, reversed and the views of a dict."""
    found = set()
    for one in ast.walk(node):
        if isinstance(one, (ast.Name, ast.Attribute)):
            found.add(ast.unparse(one))
    return found


def changed(node):
    """What a part of the program changes in place, as text."""
    found = set()
    for one in ast.walk(node):
        if isinstance(one, ast.Call) and isinstance(one.func, ast.Attribute) and one.func.attr in CHANGING:
            found.add(ast.unparse(one.func.value))
        if isinstance(one, ast.Subscript) and isinstance(one.ctx, (ast.Store, ast.Del)):
            found.add(ast.unparse(one.value))
    return found


def files():
    """The files of the package: names and texts."""
    for path in sorted(PACKAGE.glob("*.py")):
        yield path.name, path.read_text(encoding="utf-8")


def nodes(text, *kinds):
    """The parts of these kinds in a text of Python."""
    return [node for node in ast.walk(ast.parse(text)) if isinstance(node, kinds)]


class Language(unittest.TestCase):
    def test_the_folder_holds_files_of_python_alone(self):
        held = sorted(path.name for path in PACKAGE.iterdir() if path.name != "__pycache__")
        self.assertEqual(held, [name for name, _ in files()])
        self.assertIn("__init__.py", held)

    def test_no_star_in_the_brackets_of_a_subscript(self):
        for name, text in files():
            for node in nodes(text, ast.Subscript):
                stars = [one for one in ast.walk(node.slice) if isinstance(one, ast.Starred)]
                self.assertEqual(stars, [], f"{name}:{node.lineno}")

    def test_sizes(self):
        for name, text in files():
            lines = text.split("\n")
            self.assertLess(len(lines), 400, name)
            self.assertLessEqual(max(len(line) for line in lines), 120, name)
            for node in nodes(text, ast.FunctionDef, ast.Lambda):
                self.assertLessEqual(node.end_lineno - node.lineno + 1, 40, f"{name}:{node.lineno}")

    def test_signs(self):
        for name, text in files():
            self.assertEqual({sign for sign in text if not " " <= sign <= "~"} - {"\n"}, set(), name)

    def test_imports(self):
        for name, text in files():
            self.assertEqual(nodes(text, ast.Import), [], name)
            for node in nodes(text, ast.ImportFrom):
                names = {one.name for one in node.names}
                self.assertEqual([one.asname for one in node.names], [None] * len(node.names), name)
                if node.module in LIBRARY:
                    self.assertLessEqual(names, LIBRARY[node.module], name)
                else:
                    package, _, module = node.module.partition(".")
                    self.assertEqual(package, "causaleffects", name)
                    inner = ast.parse((PACKAGE / f"{module}.py").read_text(encoding="utf-8")).body
                    made = {one.name for one in inner if isinstance(one, (ast.FunctionDef, ast.ClassDef))}
                    made |= {one.targets[0].id for one in inner if isinstance(one, ast.Assign)}
                    self.assertLessEqual(names, made, name)

    def test_names(self):
        # No name is that of an import of its file, nor that of a builtin.
        for name, text in files():
            imported = {one.name for node in nodes(text, ast.ImportFrom) for one in node.names}
            bound = {node.id for node in nodes(text, ast.Name) if isinstance(node.ctx, ast.Store)}
            bound |= {node.arg for node in nodes(text, ast.arg)}
            self.assertEqual(imported & bound, set(), name)
            made = {node.name for node in nodes(text, ast.FunctionDef, ast.ClassDef)}
            self.assertEqual((made | bound) & set(dir(builtins)) - {"__init__"}, set(), name)

    def test_builtins_and_barred_words(self):
        for name, text in files():
            loaded = {node.id for node in nodes(text, ast.Name)}
            self.assertLessEqual(loaded & set(dir(builtins)), BUILTINS, name)
            words = loaded | {node.attr for node in nodes(text, ast.Attribute)}
            words |= {node.arg for node in nodes(text, ast.arg, ast.keyword)} | {node.name for node in nodes(text, ast.FunctionDef)}
            self.assertEqual(words & BARRED, set(), name)
            for node in nodes(text, ast.Call):
                if isinstance(node.func, ast.Name) and node.func.id == "isinstance":
                    self.assertEqual(len(node.args), 2, name)

    def test_methods(self):
        own = {node.name for _, text in files() for kind in nodes(text, ast.ClassDef) for node in kind.body
               if isinstance(node, ast.FunctionDef)}
        kept = {node.attr for _, text in files() for node in nodes(text, ast.Attribute) if isinstance(node.ctx, ast.Store)}
        self.assertEqual(own & METHODS, set())
        for name, text in files():
            called = {node.func.attr for node in nodes(text, ast.Call) if isinstance(node.func, ast.Attribute)}
            self.assertLessEqual(called, own | METHODS, name)
            read = {node.attr for node in nodes(text, ast.Attribute) if isinstance(node.ctx, ast.Load)}
            self.assertLessEqual(read, own | METHODS | kept, name)
            for kind in nodes(text, ast.ClassDef):
                made = {node.attr for node in ast.walk(kind) if isinstance(node, ast.Attribute) and isinstance(node.ctx, ast.Store)}
                self.assertEqual(made & {node.name for node in kind.body if isinstance(node, ast.FunctionDef)}, set(), name)

    def test_what_is_gone_over_is_not_changed(self):
        for name, text in files():
            for node in nodes(text, ast.For):
                inner = set().union(*(changed(one) for one in node.body))
                if not any(isinstance(one, ast.Call) and isinstance(one.func, ast.Name) and one.func.id in ("list", "settings")
                           for one in ast.walk(node.iter)):
                    self.assertEqual(gone_over(node.iter) & inner, set(), f"{name}:{node.lineno}")

    def test_plain_statements(self):
        barred = (ast.Global, ast.Nonlocal, ast.AsyncFunctionDef, ast.Yield, ast.YieldFrom, ast.Await, ast.Delete, ast.Try)
        for name, text in files():
            for node in nodes(text, *barred):
                # Errors of the package alone are caught, each by its name.
                self.assertIsInstance(node, ast.Try, f"{name}:{node.lineno}")
                for handler in node.handlers:
                    self.assertIn(handler.type.id, ("CausalError", "InvalidText", "InvalidAsked"), f"{name}:{node.lineno}")
            for node in ast.parse(text).body:
                self.assertIsInstance(node, (ast.Expr, ast.ImportFrom, ast.FunctionDef, ast.ClassDef, ast.Assign), name)

    def test_no_two_files_import_from_each_other(self):
        heads = {name[:-3]: {node.module.partition(".")[2] for node in nodes(text, ast.ImportFrom)} for name, text in files()}
        while heads:
            free = [name for name, wanted in heads.items() if not wanted & set(heads)]
            self.assertNotEqual(free, [], heads)
            for name in free:
                del heads[name]

    def test_no_floats_and_no_slash(self):
        for name, text in files():
            self.assertEqual(nodes(text, ast.Div), [], name)
            self.assertEqual([node.value for node in nodes(text, ast.Constant) if isinstance(node.value, float)], [], name)


if __name__ == "__main__":
    unittest.main()
