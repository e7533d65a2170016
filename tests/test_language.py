"""Those rules of the language of the package that a look at its files can tell."""

import ast
import builtins
import os
import re
import unittest

HERE = os.path.dirname(os.path.dirname(os.path.abspath(__file__)))

FOLDER = os.path.join(HERE, "copybooks")

STATEMENTS = (
    ast.Assign, ast.AugAssign, ast.If, ast.While, ast.For, ast.Return, ast.Break, ast.Continue, ast.Pass, ast.Raise,
    ast.Assert, ast.Delete, ast.Nonlocal, ast.With, ast.Try, ast.Expr, ast.FunctionDef, ast.ClassDef, ast.ImportFrom,
)

BUILTINS = set("""len range enumerate zip min max sum abs sorted reversed int str bool list tuple dict set isinstance
ord repr any all divmod map iter next Exception ValueError TypeError KeyError IndexError LookupError
ZeroDivisionError ArithmeticError OverflowError RuntimeError NotImplementedError AttributeError StopIteration
NotImplemented super""".split())

CAUGHT = {"KeyError", "ZeroDivisionError", "StopIteration"}

METHODS = set("""append clear copy count endswith extend find get index insert isalnum isalpha isdigit islower isspace
isupper items join keys ljust lower lstrip partition pop remove replace reverse rfind rjust rpartition rsplit rstrip
setdefault split splitlines startswith strip update upper values zfill bit_length sort add discard""".split())

DUNDERS = set("""__init__ __eq__ __repr__ __str__ __len__ __enter__ __exit__ __call__ __iter__ __lt__ __le__ __gt__
__ge__ __ne__ __contains__ __getitem__ __setitem__ __bool__""".split())

NO_ATTRIBUTES = set("""items keys values pop update append clear extend insert remove reverse setdefault sort args encode
decode hex fromhex format format_map mro""".split())

NO_NAMES = set("""register mro elements open input law version_info with_traceback add_note attrgetter breakpoint
builtins compile copyright credits delattr dir eval exec exit gc getattr globals hasattr help id importlib license
locals methodcaller os quit setattr super type vars sys""".split())

NO_WORDS = set("""type typing typing_extensions enum Enum IntEnum StrEnum Flag IntFlag Generic Protocol ABC ABCMeta
namedtuple NamedTuple TypedDict TYPE_CHECKING abstractmethod""".split())

NO_BEGINNINGS = ("_wall", "_pe_", "_dcw_", "_enum_", "_cm_", "_twin_re_", "_lay_", "_law_", "_stub_", "_sre")


def files():
    """The files of the package: name, text and tree."""
    found = []
    for name in sorted(os.listdir(FOLDER)):
        if name != "__pycache__":
            with open(os.path.join(FOLDER, name), encoding="utf-8", newline="") as file:
                text = file.read()
            found.append((name, text, ast.parse(text)))
    return found


def bound(tree):
    """Every name that something in the tree is called, with its node."""
    for node in ast.walk(tree):
        if isinstance(node, (ast.FunctionDef, ast.ClassDef)):
            yield node.name, node
        elif isinstance(node, ast.arg):
            yield node.arg, node
        elif isinstance(node, ast.Name) and not isinstance(node.ctx, ast.Load):
            yield node.id, node
        elif isinstance(node, ast.alias):
            yield node.name, node
        elif isinstance(node, ast.ExceptHandler) and node.name:
            yield node.name, node


def methods(tree):
    """The names of all methods in the tree."""
    return {inner.name for node in ast.walk(tree) if isinstance(node, ast.ClassDef)
            for inner in node.body if isinstance(inner, ast.FunctionDef)}


def docstrings(tree):
    """The nodes of the docstrings in the tree."""
    found = []
    for node in ast.walk(tree):
        if isinstance(node, (ast.Module, ast.FunctionDef, ast.ClassDef)) and ast.get_docstring(node) is not None:
            found.append(node.body[0].value)
    return found


def strings(tree):
    """The nodes of all strings but docstrings."""
    kept = docstrings(tree)
    return [node for node in ast.walk(tree)
            if isinstance(node, ast.Constant) and isinstance(node.value, str) and node not in kept]


class LanguageCase(unittest.TestCase):

    def each(self):
        """The files, each told by its name if something of it is wrong."""
        for name, text, tree in files():
            self.file = name
            yield name, text, tree

    def _formatMessage(self, msg, standard):
        return super()._formatMessage(f"{getattr(self, 'file', '')}: {msg}", standard)


class TestFiles(LanguageCase):

    def test_names_and_characters(self):
        self.assertLessEqual(len(files()), 100)
        self.assertIn("__init__.py", os.listdir(FOLDER))
        for name, text, _ in self.each():
            self.assertRegex(name, r"^([a-z][a-z0-9_]*|__init__|__main__)\.py$")
            self.assertNotIn(name[:-3], NO_NAMES | NO_WORDS | set(dir(builtins)) | {"test", "tests", "site"})
            self.assertRegex(text, r"\A[ -~\n]*\Z")
            self.assertNotRegex(text, "_wall|_WallAttr")

    def test_sizes(self):
        for _, text, tree in self.each():
            self.assertLessEqual(len(text.splitlines()), 399)
            self.assertLessEqual(max([len(line) for line in text.splitlines()] + [0]), 120)
            for node in ast.walk(tree):
                if isinstance(node, ast.FunctionDef):
                    self.assertLessEqual(node.end_lineno - node.lineno + 1, 40, node.name)

    def test_module_level(self):
        for _, _, tree in self.each():
            names = [name for node in tree.body for name, _ in bound(ast.Module([node], [])) if node in tree.body
                     and not isinstance(node, (ast.FunctionDef, ast.ClassDef))]
            names += [node.name for node in tree.body if isinstance(node, (ast.FunctionDef, ast.ClassDef))]
            self.assertEqual(len(names), len(set(names)))
            for at, node in enumerate(tree.body):
                if isinstance(node, ast.Expr):
                    self.assertEqual((at, type(node.value.value)), (0, str))
                elif isinstance(node, ast.Assign):
                    self.assertIsInstance(node.targets[0], ast.Name)
                    for inner in ast.walk(node.value):
                        self.assertIsInstance(inner, (ast.Constant, ast.List, ast.Tuple, ast.Dict, ast.Name, ast.Load))
                else:
                    self.assertIsInstance(node, (ast.ImportFrom, ast.FunctionDef, ast.ClassDef))

    def test_imports(self):
        trees = {name[:-3]: tree for name, _, tree in files()}
        needs = {}
        for name, _, tree in self.each():
            needs[name[:-3]] = set()
            for node in ast.walk(tree):
                self.assertNotIsInstance(node, ast.Import)
                if isinstance(node, ast.ImportFrom):
                    self.assertIn(node, tree.body)
                    self.assertTrue(node.module.startswith("copybooks."))
                    source = trees[node.module[len("copybooks."):]]
                    tops = {one for top in source.body for one, inner in bound(ast.Module([top], []))
                            if inner is top or isinstance(top, ast.Assign)}
                    for alias in node.names:
                        self.assertIsNone(alias.asname)
                        self.assertIn(alias.name, tops)
                    needs[name[:-3]].add(node.module[len("copybooks."):])
        while needs:
            free = [name for name in needs if not needs[name] & set(needs)]
            self.assertTrue(free, "files import from each other")
            for name in free:
                del needs[name]


class TestWords(LanguageCase):

    def test_names(self):
        for _, _, tree in self.each():
            for name, node in bound(tree):
                if name in DUNDERS:
                    self.assertIsInstance(node, ast.FunctionDef)
                    continue
                self.assertRegex(name, r"^(_|_?[A-Za-z][A-Za-z0-9_]*)$")
                self.assertFalse(name.startswith(NO_BEGINNINGS), name)
                self.assertNotIn(name, NO_NAMES | NO_WORDS)
                self.assertNotIn(name, dir(builtins))
                if isinstance(node, ast.ClassDef):
                    self.assertTrue(name[0].isalpha())

    def test_names_of_classes_and_imports(self):
        for _, _, tree in self.each():
            tops = {alias.name for node in tree.body if isinstance(node, ast.ImportFrom) for alias in node.names}
            tops |= {node.name for node in tree.body if isinstance(node, ast.ClassDef)}
            for node in ast.walk(tree):
                if isinstance(node, ast.FunctionDef):
                    inner = {name for part in node.body + [node.args] for name, _ in bound(part)}
                    self.assertEqual(inner & tops, set(), node.name)

    def test_words_beside_items_by_index(self):
        for _, text, _ in self.each():
            self.assertNotRegex(text, r"\(type\)|Meta|metaclass=")

    def test_builtins(self):
        for _, _, tree in self.each():
            for node in ast.walk(tree):
                if isinstance(node, ast.Name) and node.id in dir(builtins):
                    self.assertIn(node.id, BUILTINS, node.lineno)

    def test_words(self):
        for _, _, tree in self.each():
            kept = docstrings(tree)
            for node in ast.walk(tree):
                if node in kept:
                    continue
                told = getattr(node, "id", None) or getattr(node, "attr", None) or getattr(node, "value", None)
                for word in re.findall(r"\w+", told) if isinstance(told, str) else []:
                    self.assertNotIn(word, NO_WORDS)

    def test_methods_and_attributes(self):
        own = set().union(*[methods(tree) for _, _, tree in files()])
        stored = {node.attr for _, _, tree in files() for node in ast.walk(tree)
                  if isinstance(node, ast.Attribute) and isinstance(node.ctx, ast.Store)}
        self.assertEqual(own & stored, set())
        self.assertEqual(stored & NO_ATTRIBUTES, set())
        for _, _, tree in self.each():
            for node in ast.walk(tree):
                if isinstance(node, ast.Call) and isinstance(node.func, ast.Attribute):
                    self.assertIn(node.func.attr, METHODS | own | DUNDERS)
                if isinstance(node, ast.Attribute) and isinstance(node.ctx, ast.Load):
                    self.assertIn(node.attr, METHODS | own | stored | DUNDERS)

    def test_strings(self):
        for _, _, tree in self.each():
            for node in strings(tree):
                self.assertNotIn("%", node.value)
                self.assertNotRegex(node.value, r"^__.*__$|\.__?$")


class TestStatements(LanguageCase):

    def test_statements(self):
        for _, _, tree in self.each():
            for node in ast.walk(tree):
                if isinstance(node, ast.stmt):
                    self.assertIsInstance(node, STATEMENTS)
                self.assertNotIsInstance(node, (ast.GeneratorExp, ast.Yield, ast.YieldFrom, ast.Await, ast.Div, ast.Pow))
                if isinstance(node, ast.Constant):
                    self.assertNotIsInstance(node.value, (float, complex, bytes))
                if isinstance(node, (ast.FunctionDef, ast.ClassDef)):
                    self.assertEqual(node.decorator_list, [])

    def test_finally(self):
        # Only names and attributes are assigned there, by names and attributes.
        plain = (ast.Tuple, ast.Name, ast.Attribute, ast.Load, ast.Store)
        for _, _, tree in self.each():
            for node in ast.walk(tree):
                for row in getattr(node, "finalbody", None) or []:
                    self.assertIsInstance(row, ast.Assign)
                    for inner in [one for part in row.targets + [row.value] for one in ast.walk(part)]:
                        self.assertIsInstance(inner, plain)

    def test_operators_change_nothing(self):
        names = {"__contains__", "__getitem__", "__eq__", "__len__", "__iter__"}
        for _, _, tree in self.each():
            for node in ast.walk(tree):
                if isinstance(node, ast.FunctionDef) and node.name in names:
                    for inner in ast.walk(node):
                        self.assertNotIsInstance(inner, (ast.Assign, ast.AugAssign, ast.Delete))
                if isinstance(node, ast.ClassDef):
                    own = {inner.name for inner in node.body if isinstance(inner, ast.FunctionDef)}
                    self.assertTrue("__getitem__" not in own or "__iter__" in own)

    def test_is(self):
        for _, _, tree in self.each():
            for node in ast.walk(tree):
                if isinstance(node, ast.Compare) and any(isinstance(op, (ast.Is, ast.IsNot)) for op in node.ops):
                    self.assertEqual(len(node.ops), 1)
                    self.assertIn(getattr(node.comparators[0], "value", 0), (None, True, False))

    def test_handlers_and_raises(self):
        own = {node.name for _, _, tree in files() for node in ast.walk(tree)
               if isinstance(node, ast.ClassDef) and node.name[0].isupper()}
        for _, _, tree in self.each():
            for node in ast.walk(tree):
                if isinstance(node, ast.ExceptHandler):
                    names = node.type.elts if isinstance(node.type, ast.Tuple) else [node.type]
                    for name in names:
                        self.assertIn(name.id, own | CAUGHT)
                if isinstance(node, ast.Raise) and node.exc is not None:
                    self.assertIsInstance(node.exc, ast.Call)
                    self.assertIn(node.exc.func.id, own)

    def test_defaults_and_annotations(self):
        for _, _, tree in self.each():
            for node in ast.walk(tree):
                self.assertIsNone(getattr(node, "annotation", None))
                if isinstance(node, ast.arguments):
                    for value in node.defaults + [one for one in node.kw_defaults if one is not None]:
                        for inner in ast.walk(value):
                            self.assertIsInstance(inner, (ast.Constant, ast.Tuple, ast.Load))

    def test_loops_do_not_change_what_they_go_over(self):
        for _, _, tree in self.each():
            for node in ast.walk(tree):
                if not isinstance(node, ast.For):
                    continue
                over = [ast.dump(inner) for inner in ast.walk(node.iter) if isinstance(inner, (ast.Name, ast.Attribute))]
                for inner in ast.walk(ast.Module(node.body, [])):
                    if isinstance(inner, ast.Call) and isinstance(inner.func, ast.Attribute) and inner.func.attr in (
                            "append", "extend", "pop", "clear", "insert", "remove", "update", "setdefault"):
                        self.assertNotIn(ast.dump(inner.func.value), over, inner.lineno)


if __name__ == "__main__":
    unittest.main()
