"""The rules of the language that can be read off the code of the package.

This looks at what the package uses and is narrower than LANGUAGE.md where the package needs no more.
"""

import ast
import builtins
import os
import re
import unittest

FOLDER = os.path.join(os.path.dirname(os.path.dirname(os.path.abspath(__file__))), "pursewebs")
LIBRARY = {"math": {"gcd", "isqrt", "lcm"}}
BUILTINS = set("""len range enumerate zip min max sum abs sorted reversed int str bool list tuple dict set isinstance ord
    repr any all divmod iter Exception ValueError TypeError KeyError NotImplemented""".split())
METHODS = set("""append clear copy count endswith extend find get index insert isdigit items join keys ljust lower
    partition pop remove replace reverse rjust setdefault split startswith strip update upper values zfill
    bit_length""".split())
BARRED_NAMES = set("""register mro elements open input law version_info with_traceback add_note attrgetter breakpoint
    builtins compile copyright credits delattr dir eval exec exit gc getattr globals hasattr help id importlib license
    locals methodcaller os quit setattr super type vars sys _cold _tuplegetter _outside _record _written_out
    _member_names""".split())
BARRED_WORDS = re.compile(r"\b(type|typing|typing_extensions|enum|Enum|IntEnum|StrEnum|Flag|IntFlag|Generic|Protocol|ABC|"
                          r"ABCMeta|namedtuple|NamedTuple|TypedDict|TYPE_CHECKING|abstractmethod)\b|dataclass|overload|"
                          r"contextmanager|_wall|_WallAttr")
SPECIAL = set("""__init__ __eq__ __str__ __bool__ __iter__ __call__ __add__ __radd__ __sub__ __rsub__ __mul__ __rmul__
    __invert__ __getitem__ __enter__ __exit__""".split())
STATEMENTS = (ast.Assign, ast.AugAssign, ast.If, ast.While, ast.For, ast.Return, ast.Break, ast.Continue, ast.Pass,
              ast.Raise, ast.Assert, ast.Delete, ast.Try, ast.Expr, ast.FunctionDef, ast.ClassDef, ast.ImportFrom, ast.With)
EXPRESSIONS = (ast.Lambda, ast.GeneratorExp, ast.Await, ast.NamedExpr, ast.Div, ast.MatMult, ast.Set, ast.SetComp)


def files():
    return {name[:-3]: open_text(os.path.join(FOLDER, name)) for name in sorted(os.listdir(FOLDER))
            if name != "__pycache__"}


def open_text(path):
    with open(path, encoding="utf-8") as file:
        return file.read()


def named(tree, name):
    return [node for node in ast.walk(tree) if isinstance(node, name)]


def bound_names(tree):
    """Parameters, assigned names, functions, classes and caught errors."""
    found = [node.arg for node in named(tree, ast.arg)]
    found += [node.id for node in named(tree, ast.Name) if not isinstance(node.ctx, ast.Load)]
    return found + [node.name for node in named(tree, ast.ExceptHandler) if node.name]


def defined(tree):
    found = [node.name for node in tree.body if isinstance(node, (ast.FunctionDef, ast.ClassDef))]
    return found + [node.targets[0].id for node in tree.body if isinstance(node, ast.Assign)]


class Language(unittest.TestCase):
    @classmethod
    def setUpClass(cls):
        cls.texts = files()
        cls.trees = {name: ast.parse(text) for name, text in cls.texts.items()}
        cls.generators = {node.name for tree in cls.trees.values() for node in named(tree, ast.FunctionDef)
                          if named(node, ast.Yield)}

    def each(self):
        for name, tree in self.trees.items():
            with self.subTest(file=name):
                yield name, tree

    def test_files(self):
        self.assertTrue(all(name.endswith(".py") for name in os.listdir(FOLDER) if name != "__pycache__"))
        for name, text in self.texts.items():
            with self.subTest(file=name):
                self.assertRegex(name, r"^(__init__|[a-z][a-z_]*)$")
                self.assertRegex(text, r"\A[ -~\n]*\n\Z")
                lines = text.split("\n")
                self.assertLess(len(lines), 400)
                self.assertLessEqual(max(map(len, lines)), 120)

    def test_functions_are_short(self):
        for _, tree in self.each():
            for node in named(tree, ast.FunctionDef):
                self.assertLessEqual(node.end_lineno - node.lineno + 1, 40, node.name)

    def test_imports(self):
        ways = {}
        for name, tree in self.each():
            ways[name] = []
            for node in named(tree, (ast.Import, ast.ImportFrom)):
                self.assertIsInstance(node, ast.ImportFrom)
                self.assertIn(node, tree.body)
                self.assertEqual(node.level, 0)
                self.assertTrue(all(alias.asname is None for alias in node.names))
                told = {alias.name for alias in node.names}
                if node.module in LIBRARY:
                    self.assertLessEqual(told, LIBRARY[node.module])
                    continue
                self.assertRegex(node.module, r"^pursewebs\.[a-z]+$")
                ways[name].append(node.module[10:])
                self.assertLessEqual(told, set(defined(self.trees[node.module[10:]])))
                used = {part.id for part in named(tree, ast.Name)}
                self.assertLessEqual(told, used)
        for name in ways:
            self.assertNotIn(name, reach(ways, ways[name]))

    def test_module_level(self):
        for name, tree in self.each():
            self.assertTrue(ast.get_docstring(tree))
            for node in tree.body[1:]:
                self.assertIsInstance(node, (ast.ImportFrom, ast.FunctionDef, ast.ClassDef, ast.Assign))
            told = defined(tree) + [alias.name for node in named(tree, ast.ImportFrom) for alias in node.names]
            self.assertEqual(len(told), len(set(told)))
            for node in named(tree, ast.ClassDef):
                self.assertIn(node, tree.body)
                for part in node.body:
                    self.assertTrue(isinstance(part, ast.FunctionDef) or isinstance(part.value, ast.Constant))

    def test_statements_and_expressions(self):
        for name, tree in self.each():
            for node in named(tree, ast.stmt):
                self.assertIsInstance(node, STATEMENTS)
            for node in named(tree, EXPRESSIONS):
                self.fail((name, node.lineno, node))
            for node in named(tree, ast.AugAssign):
                self.assertIsInstance(node.value, ast.Constant, (name, node.lineno))
            for node in named(tree, ast.ExceptHandler):
                self.assertIsNotNone(node.type)
            for node in named(tree, ast.FunctionDef):
                for mark in node.decorator_list:
                    self.assertIn(mark.id, ("property", "classmethod"))

    def test_names(self):
        for name, tree in self.each():
            outer = {node.name for node in named(tree, ast.ClassDef)}
            outer |= {alias.name for node in named(tree, ast.ImportFrom) for alias in node.names}
            for word in bound_names(tree) + defined(tree):
                self.assertNotIn(word, BARRED_NAMES, name)
                self.assertFalse(hasattr(builtins, word), (name, word))
                self.assertFalse(word.startswith("__"), (name, word))
            for word in bound_names(tree):
                self.assertNotIn(word, outer, name)
                self.assertNotIn(word, self.generators, name)
            for node in named(tree, ast.FunctionDef):
                if node.name.startswith("__"):
                    self.assertIn(node.name, SPECIAL)
            read = [node.id for node in named(tree, ast.Name) if isinstance(node.ctx, ast.Load)]
            self.assertNotIn("_", read)

    def test_strings_and_words(self):
        for name, tree in self.each():
            told = {id(node.body[0].value) for node in ast.walk(tree)
                    if isinstance(node, (ast.Module, ast.ClassDef, ast.FunctionDef)) and ast.get_docstring(node)}
            for node in named(tree, ast.Constant):
                self.assertNotIsInstance(node.value, (float, complex, bytes))
                if isinstance(node.value, str):
                    self.assertNotIn("%", node.value)
                    self.assertNotIn("__", node.value)
                    if id(node) not in told:
                        self.assertIsNone(BARRED_WORDS.search(node.value), node.value)
            words = [node.id for node in named(tree, ast.Name)] + [node.attr for node in named(tree, ast.Attribute)]
            for word in words:
                self.assertIsNone(BARRED_WORDS.search(word), word)

    def test_calls(self):
        own = {node.name for tree in self.trees.values() for node in named(tree, ast.FunctionDef)}
        for name, tree in self.each():
            for node in named(tree, ast.Call):
                word = getattr(node.func, "id", None)
                if word and hasattr(builtins, word):
                    self.assertIn(word, BUILTINS, name)
                if isinstance(node.func, ast.Attribute):
                    self.assertTrue(node.func.attr in METHODS or node.func.attr in own, (name, node.func.attr))
                if word in ("any", "all", "sum", "min", "max", "sorted"):
                    self.assertNotIsInstance(node.args[0], ast.GeneratorExp)
                if word == "set":
                    self.assertIn("sorted(set(", ast.get_source_segment(self.texts[name], parent(tree, node)))

    def test_properties_methods_and_attributes_have_names_of_their_own(self):
        properties, methods, attributes = set(), set(), set()
        for name, tree in self.trees.items():
            for node in named(tree, ast.ClassDef):
                for part in node.body:
                    if isinstance(part, ast.FunctionDef):
                        marks = [mark.id for mark in part.decorator_list]
                        (properties if "property" in marks else methods).add(part.name)
            attributes |= {node.attr for node in named(tree, ast.Attribute) if isinstance(node.ctx, ast.Store)}
        self.assertEqual((properties & methods, properties & attributes, methods & attributes), (set(), set(), set()))
        self.assertFalse(properties & METHODS)
        read = {node.attr for tree in self.trees.values() for node in named(tree, ast.Attribute)}
        self.assertLessEqual(read, properties | methods | attributes | METHODS)

    def test_generators_have_names_of_their_own(self):
        defined_names = [node.name for tree in self.trees.values() for node in named(tree, ast.FunctionDef)]
        for name in self.generators:
            self.assertEqual(defined_names.count(name), 1, name)

    def test_what_is_indexed_is_not_iterated_over(self):
        for name, tree in self.each():
            for node in named(tree, ast.ClassDef):
                methods = {part.name: part for part in node.body if isinstance(part, ast.FunctionDef)}
                self.assertNotIn("keys", methods)
                if "__getitem__" in methods:
                    self.assertEqual(ast.unparse(methods["__iter__"].body[0])[:16], "raise TypeError(", node.name)

    def test_what_ends_a_block(self):
        """The rows of __exit__ only assign attributes to names and attributes."""
        for name, tree in self.each():
            for node in named(tree, ast.FunctionDef):
                if node.name == "__exit__":
                    self.assertEqual([arg.arg for arg in node.args.args], ["self", "kind", "value", "trace"])
                    for row in node.body:
                        self.assertIsInstance(row, ast.Assign)
                        self.assertIsInstance(row.targets[0], (ast.Name, ast.Attribute))
                        self.assertIsInstance(row.value, ast.Attribute)
            for node in named(tree, ast.With):
                self.assertIsInstance(node.items[0].context_expr, ast.Call)

    def test_raised_errors_are_made_on_the_spot(self):
        own = {node.name for node in named(self.trees["errors"], ast.ClassDef)}
        for name, tree in self.each():
            iterators = [node for node in named(tree, ast.FunctionDef) if node.name == "__iter__"]
            allowed = [part for node in iterators for part in named(node, ast.Raise)]
            for node in named(tree, ast.Raise):
                if node in allowed:
                    continue
                self.assertIn(node.exc.func.id, own, name)
                self.assertEqual([type(arg.value) for arg in node.exc.args], [str], (name, node.lineno))
                self.assertNotEqual(node.exc.args[0].value, "")


def parent(tree, child):
    return next(node for node in ast.walk(tree) if child in ast.iter_child_nodes(node))


def reach(ways, begin):
    found, waiting = set(), list(begin)
    while waiting:
        name = waiting.pop()
        if name not in found:
            found.add(name)
            waiting += ways.get(name, [])
    return found


if __name__ == "__main__":
    unittest.main()
