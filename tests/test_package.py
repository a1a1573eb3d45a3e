"""What can be seen of the rules of LANGUAGE.md in the files of the package, and where the interface is defined."""

import ast
import builtins
import os
import re
import unittest

ROOT = os.path.dirname(os.path.dirname(os.path.abspath(__file__)))
PACKAGE = os.path.join(ROOT, "likerun")
BUILTINS = (
    "len range enumerate zip min max sum abs sorted reversed int str bool bytes list tuple dict set frozenset"
    " isinstance ord repr any all divmod pow Exception ValueError TypeError KeyError IndexError LookupError"
    " ZeroDivisionError ArithmeticError OverflowError RuntimeError NotImplementedError AttributeError StopIteration"
    " NotImplemented iter next map super property staticmethod classmethod"
).split()
METHODS = (
    "append clear copy count endswith extend find get index insert isalnum isalpha isdigit islower isspace isupper"
    " items join keys ljust lower lstrip partition pop remove replace reverse rfind rjust rpartition rsplit rstrip"
    " setdefault split splitlines startswith strip update upper values zfill bit_length isascii isprintable"
).split()
BARRED = ("register", "mro", "elements", "open", "input", "law", "version_info", "with_traceback", "add_note")
BARRED_WORDS = (
    "type", "typing", "typing_extensions", "enum", "Enum", "IntEnum", "StrEnum", "Flag", "IntFlag", "Generic",
    "Protocol", "ABC", "ABCMeta", "namedtuple", "NamedTuple", "TypedDict", "TYPE_CHECKING", "abstractmethod",
)
# What each file defines itself.
INTERFACE = {
    "errors": (
        "LikerunError", "SourceError", "BadSign", "BadToken", "BadIndent", "TooLong", "TooDeep", "BadSyntax",
        "BadScope", "BadDatum", "BadSave", "BadOption", "BadCode", "BadPaper", "UnknownPass", "BadLevel", "Fault",
        "MachineFault"),
    "datum": ("write_datum", "read_datum"),
    "signs": ("tokens", "layout"),
    "trees": ("read_tree",),
    "printing": ("print_tree", "without_lines"),
    "scopes": ("Unit", "Program", "read_program", "meaning"),
    "memory": ("Store",),
    "heap": ("Heap",),
    "values": ("is_true", "equal", "ordered", "is_key", "kind_word", "ERROR_CLASSES", "BUILTINS"),
    "showing": ("show", "text_of"),
    "operations": ("unary", "binary", "compare", "load_item", "store_item", "delete_item", "load_slice"),
    "fields": (
        "find_field", "is_within", "is_error_class", "is_error", "load_field", "store_field", "delete_field",
        "get_iterator", "fetch"),
    "natives": ("bind", "call_builtin", "call_native"),
    "pictures": ("measure", "draw"),
    "runner": ("Runner", "ROOM", "FUEL", "DEPTH"),
    "reading": ("Reading",),
    "code": ("Code", "Compiled", "write_code", "read_code"),
    "compiler": ("compile_program",),
    "checker": ("check_code",),
    "machine": ("Machine",),
    "papers": ("apply_paper", "replay"),
    "optimiser": ("optimise", "PASSES"),
    "saving": ("save", "load"),
    "debugger": ("Debugger", "Watch", "watch_steps"),
    "whole": ("run_text",),
}
# The methods and properties that stand in the body of the class itself, and the class values.
MEMBERS = {
    "Program": ("read",),
    "Store": ("make", "kind_of", "tag_of", "slots_of", "slot", "set_slot", "change", "reach", "graph", "__len__", "KINDS"),
    "Heap": ("make", "set_slot", "change", "__len__", "collect", "faults", "young", "old", "remembered"),
    "Runner": (
        "prints", "lines", "steps", "end", "trace", "advance", "finish", "walk", "picture", "names", "room_used",
        "report"),
    "Code": ("__eq__", "__len__"),
    "Compiled": ("__eq__", "__len__"),
    "Machine": ("tick", "collect", "held"),
    "Debugger": (
        "step", "over", "out", "go", "where", "add_break", "clear_break", "breaks", "set_patience", "history", "back",
        "patience", "__contains__"),
    "Watch": ("seen", "__enter__", "__exit__"),
}
DUNDERS = ("__init__", "__len__", "__eq__", "__contains__", "__enter__", "__exit__")
DECORATORS = ("property", "staticmethod", "patience.setter")
# The property that may be assigned.
SETTABLE = ("patience",)
# The functions that yield: no other function or method has such a name.
GENERATORS = ("walk",)


def package_files():
    """Return the paths of the files of the package."""
    return sorted(os.path.join(PACKAGE, name) for name in os.listdir(PACKAGE) if name != "__pycache__")


def read_file(path):
    with open(path, encoding="utf-8", newline="") as held:
        return held.read()


class TestPackage(unittest.TestCase):

    @classmethod
    def setUpClass(cls):
        cls.texts = {os.path.basename(path): read_file(path) for path in package_files()}
        cls.trees = {name: ast.parse(cls.texts[name]) for name in cls.texts}

    def nodes(self, *kinds):
        """Return the file's name and the node for each node of these kinds."""
        return [(name, node) for name in self.trees for node in ast.walk(self.trees[name]) if isinstance(node, kinds)]

    def test_files(self):
        self.assertIn("__init__.py", self.texts)
        self.assertLessEqual(len(self.texts), 100)
        for name in self.texts:
            self.assertRegex(name, r"^[a-z_][a-z0-9_]*\.py$")
            self.assertNotRegex(name, r"^(test|law_|site|conftest|usercustomize)")

    def test_sizes_of_files_and_lines(self):
        for name, text in self.texts.items():
            rows = text.split("\n")
            self.assertLessEqual(len(rows) - 1, 399, name)
            self.assertLessEqual(max(len(row) for row in rows), 120, name)

    def test_characters(self):
        for name, text in self.texts.items():
            self.assertEqual([sign for sign in text if not (" " <= sign <= "~" or sign == "\n")], [], name)

    def test_sizes_of_functions(self):
        for name, node in self.nodes(ast.FunctionDef, ast.Lambda):
            self.assertLessEqual(node.end_lineno - node.lineno + 1, 40, (name, node.lineno))

    def test_each_function_says_what_it_is_for(self):
        for name, node in self.nodes(ast.FunctionDef, ast.ClassDef):
            if node.name not in DUNDERS:
                self.assertIsNotNone(ast.get_docstring(node), (name, node.name))

    def test_imports(self):
        for name, node in self.nodes(ast.Import):
            self.fail(name)
        uses = {name[:-3]: set() for name in self.texts}
        for name, node in self.nodes(ast.ImportFrom):
            folder, _, module = node.module.partition(".")
            self.assertEqual((folder, node.level), ("likerun", 0), name)
            defined = self.defined(module)
            for alias in node.names:
                self.assertIsNone(alias.asname, name)
                self.assertIn(alias.name, defined, name)
                used = [part for part in ast.walk(self.trees[name])
                        if isinstance(part, ast.Name) and part.id == alias.name]
                self.assertTrue(used, (name, alias.name))
            uses[name[:-3]].add(module)
        while uses:
            free = [name for name in uses if not uses[name] & set(uses)]
            self.assertTrue(free, "files that import from each other")
            for name in free:
                del uses[name]

    def defined(self, module):
        """Return the names that a file defines itself."""
        body = self.trees[module + ".py"].body
        return [part.name for part in body if isinstance(part, (ast.FunctionDef, ast.ClassDef))] + [
            part.targets[0].id for part in body if isinstance(part, ast.Assign)]

    def classes(self):
        return [part for tree in self.trees.values() for part in tree.body if isinstance(part, ast.ClassDef)]

    def test_module_level(self):
        for name, tree in self.trees.items():
            bound = []
            for node in tree.body:
                if isinstance(node, ast.Expr):
                    self.assertIsInstance(node.value, ast.Constant, name)
                    self.assertIsInstance(node.value.value, str, name)
                elif isinstance(node, ast.Assign):
                    self.assertEqual(len(node.targets), 1)
                    bound.append(node.targets[0].id)
                    self.check_plain(name, node.value)
                elif isinstance(node, ast.ImportFrom):
                    bound += [alias.name for alias in node.names]
                else:
                    self.assertIsInstance(node, (ast.FunctionDef, ast.ClassDef), name)
                    bound.append(node.name)
            self.assertEqual(len(bound), len(set(bound)), name)

    def check_plain(self, name, node):
        """A value at module level is plain, and has no list or dict within a list, dict or tuple."""
        for part in ast.walk(node):
            self.assertIsInstance(part, (ast.Constant, ast.Tuple, ast.List, ast.Dict, ast.Name, ast.Load), name)
            if part is not node:
                self.assertNotIsInstance(part, (ast.List, ast.Dict), name)
            if isinstance(part, ast.Name):
                functions = [row.name for row in self.trees[name].body
                             if isinstance(row, ast.FunctionDef) and row.lineno < node.lineno]
                self.assertIn(part.id, functions, name)

    def test_statements_and_expressions(self):
        barred = (
            ast.Global, ast.AsyncFunctionDef, ast.Await, ast.Div, ast.Set, ast.SetComp, ast.AnnAssign, ast.Starred,
            ast.Match, ast.NamedExpr, ast.Lambda, ast.GeneratorExp, ast.YieldFrom)
        for name, node in self.nodes(*barred):
            self.fail((name, node.lineno))
        for name, node in self.nodes(ast.With):
            self.assertEqual((name, ast.unparse(node.items[0])), ("debugger.py", "watch"))
        for name, node in self.nodes(ast.FunctionDef, ast.ClassDef):
            for part in node.decorator_list:
                self.assertIn(ast.unparse(part), DECORATORS, name)
                self.assertIsInstance(node, ast.FunctionDef)
        for name, node in self.nodes(ast.Try):
            self.assertEqual(node.finalbody, [], (name, node.lineno))
            for part in node.handlers:
                for word in ast.unparse(part.type).strip("()").split(", "):
                    self.assertIn(word, INTERFACE["errors"], (name, node.lineno))
        for name, node in self.nodes(ast.FunctionDef):
            yields = [part for part in ast.walk(node) if isinstance(part, ast.Yield)]
            plain = [part for part in ast.walk(node) if isinstance(part, ast.Expr) and isinstance(part.value, ast.Yield)]
            self.assertEqual(len(yields), len(plain), (name, node.name))
            self.assertEqual(bool(yields), node.name in GENERATORS, (name, node.name))
        for name, node in self.nodes(ast.Constant):
            self.assertNotIsInstance(node.value, (float, complex), name)

    def test_names(self):
        for name, node in self.nodes(ast.Name, ast.arg, ast.FunctionDef, ast.ClassDef, ast.Attribute):
            word = getattr(node, "id", None) or getattr(node, "arg", None) or getattr(node, "name", None) or node.attr
            self.assertTrue(re.fullmatch("_|_?[A-Za-z][A-Za-z0-9_]*", word) or word in DUNDERS, (name, word))
            self.assertNotIn(word, BARRED, name)
            if isinstance(node, ast.Name) and isinstance(node.ctx, ast.Load):
                self.assertTrue(word in BUILTINS or not hasattr(builtins, word), (name, word))
            elif not isinstance(node, ast.Attribute) and word not in DUNDERS:
                self.assertFalse(hasattr(builtins, word), (name, word))

    def test_names_of_imports_and_classes_mean_one_thing(self):
        for name, tree in self.trees.items():
            taken = [alias.name for part in tree.body if isinstance(part, ast.ImportFrom) for alias in part.names]
            taken += [part.name for part in tree.body if isinstance(part, ast.ClassDef)]
            for node in ast.walk(tree):
                if isinstance(node, ast.arg):
                    self.assertNotIn(node.arg, taken, name)
                if isinstance(node, ast.Name) and isinstance(node.ctx, ast.Store):
                    self.assertNotIn(node.id, taken, name)

    def test_methods(self):
        own = [node.name for part in self.classes() for node in part.body if isinstance(node, ast.FunctionDef)]
        values = [node.targets[0].id for part in self.classes() for node in part.body if isinstance(node, ast.Assign)]
        stored = [node.attr for _, node in self.nodes(ast.Attribute) if isinstance(node.ctx, ast.Store)]
        self.assertEqual(set(own) & set(stored), set(SETTABLE))
        self.assertEqual(set(values) & set(own + stored), set())
        for word in own + stored + values:
            self.assertFalse(any(hasattr(kind, word) for kind in (str, int, list, dict, set, bytes, tuple))
                             and word not in DUNDERS, word)
        for name, node in self.nodes(ast.Call):
            if isinstance(node.func, ast.Attribute):
                self.assertIn(node.func.attr, own + METHODS, name)

    def test_attributes_are_assigned_somewhere(self):
        own = [node.name for part in self.classes() for node in part.body if isinstance(node, ast.FunctionDef)]
        values = [node.targets[0].id for part in self.classes() for node in part.body if isinstance(node, ast.Assign)]
        stored = [node.attr for _, node in self.nodes(ast.Attribute) if isinstance(node.ctx, ast.Store)]
        for name, node in self.nodes(ast.Attribute):
            if isinstance(node.ctx, ast.Load):
                self.assertIn(node.attr, own + values + stored + METHODS + ["setter"], (name, node.lineno))

    def test_attributes_that_are_stored_are_read(self):
        read = [node.attr for _, node in self.nodes(ast.Attribute) if isinstance(node.ctx, ast.Load)]
        told = ("tree", "cells", "free", "name", "value", "line", "column", "option", "unit", "paper", "word", "level",
                "patience", "closed")
        for name, node in self.nodes(ast.Attribute):
            if isinstance(node.ctx, ast.Store):
                self.assertIn(node.attr, read + list(told), (name, node.lineno))

    def test_properties(self):
        """No method that is no property, and no other class's attribute, has a property's name."""
        properties = {}
        for part in self.classes():
            for node in part.body:
                if isinstance(node, ast.FunctionDef) and "property" in [ast.unparse(row) for row in node.decorator_list]:
                    properties[node.name] = True
                    self.assertEqual(len(node.args.args), 1)
        for part in self.classes():
            for node in part.body:
                if isinstance(node, ast.FunctionDef) and node.name in properties:
                    self.assertTrue(node.decorator_list, node.name)
        for name, node in self.nodes(ast.Attribute):
            if isinstance(node.ctx, ast.Store) and node.attr not in SETTABLE:
                self.assertNotIn(node.attr, properties, name)
        for name, node in self.nodes(ast.Call):
            if isinstance(node.func, ast.Attribute):
                self.assertNotIn(node.func.attr, properties, (name, node.lineno))

    def test_a_name_is_one_function(self):
        """A function is used, and no two functions of the package have one name."""
        names = [part.name for tree in self.trees.values() for part in tree.body if isinstance(part, ast.FunctionDef)]
        self.assertEqual(sorted(names), sorted(set(names)))
        listed = [word for words in INTERFACE.values() for word in words]
        used = {node.id for _, node in self.nodes(ast.Name)}
        for word in names:
            self.assertTrue(word in used or word in listed, word)
        uses = [node.attr for _, node in self.nodes(ast.Attribute)]
        members = [word for words in MEMBERS.values() for word in words]
        for part in self.classes():
            for node in part.body:
                if isinstance(node, ast.FunctionDef) and node.name not in DUNDERS:
                    self.assertTrue(node.name in uses or node.name in members, node.name)

    def test_strings(self):
        for name, node in self.nodes(ast.Constant):
            if isinstance(node.value, str):
                self.assertNotIn(chr(37), node.value, (name, node.lineno))
                self.assertFalse(node.value.startswith("__") and node.value.endswith("__"), name)
        for name, text in self.texts.items():
            code = ast.unparse(self.without_docstrings(name))
            self.assertEqual([word for word in re.findall(r"[A-Za-z_]+", code) if word in BARRED_WORDS], [], name)
            self.assertNotRegex(code, "dataclass|overload|contextmanager")
            # No escape but these four.
            self.assertEqual(re.findall(r"\\[^nt\\\"'\n]", text.replace("\\\\", "")), [], name)

    def without_docstrings(self, name):
        """Return the tree of a file without its docstrings."""
        tree = ast.parse(self.texts[name])
        for node in ast.walk(tree):
            if isinstance(node, (ast.Module, ast.ClassDef, ast.FunctionDef)) and ast.get_docstring(node) is not None:
                node.body = node.body[1:] or [ast.Pass()]
        return tree

    def test_is(self):
        for name, node in self.nodes(ast.Compare):
            for op, right in zip(node.ops, node.comparators):
                if isinstance(op, (ast.Is, ast.IsNot)):
                    self.assertIsInstance(right, ast.Constant, (name, node.lineno))
                    self.assertIn(right.value, (None, True, False), (name, node.lineno))

    def test_raise(self):
        for name, node in self.nodes(ast.Raise):
            self.assertIsInstance(node.exc, ast.Call, (name, node.lineno))
            self.assertIsInstance(node.exc.func, ast.Name, (name, node.lineno))

    def test_any_and_all_take_lists(self):
        for name, node in self.nodes(ast.Call):
            if isinstance(node.func, ast.Name) and node.func.id in ("any", "all", "sum", "min", "max", "sorted"):
                self.assertNotIsInstance(node.args[0], ast.GeneratorExp, (name, node.lineno))

    def test_interface(self):
        for module, names in INTERFACE.items():
            for word in names:
                self.assertIn(word, self.defined(module))
        bodies = {part.name: part.body for part in self.classes()}
        for word, names in MEMBERS.items():
            found = [node.name for node in bodies[word] if isinstance(node, ast.FunctionDef)]
            found += [node.targets[0].id for node in bodies[word] if isinstance(node, ast.Assign)]
            for name in names:
                self.assertIn(name, found, word)

    def test_readme(self):
        text = read_file(os.path.join(ROOT, "README.md"))
        self.assertIn("python3 -m unittest", text)
        for module, names in INTERFACE.items():
            self.assertIn("likerun." + module, text)


if __name__ == "__main__":
    unittest.main()
