"""Some of the rules of LANGUAGE.md, those that are easily looked at, over the files of the package."""

import ast
import builtins
import re
import unittest
from pathlib import Path

FOLDER = Path(__file__).resolve().parent.parent / "looksfar"

# What of L8 the package uses; a builtin that is needed later is added here once L8 is read again.
BUILTINS = """len range enumerate zip min max sum abs sorted reversed int str bool list tuple dict set isinstance
any all divmod ValueError KeyError""".split()

METHODS = """append clear copy count endswith extend find get index insert isalnum isalpha isdigit islower isspace
isupper items join keys ljust lower lstrip partition pop remove replace reverse rfind rjust rpartition rsplit rstrip
setdefault split splitlines startswith strip update upper values zfill bit_length isascii add""".split()

WORDS = """type typing typing_extensions enum Enum IntEnum StrEnum Flag IntFlag Generic Protocol ABC ABCMeta namedtuple
NamedTuple TypedDict TYPE_CHECKING abstractmethod dataclass overload contextmanager register mro elements open input
law""".split()


def files():
    return [(path, path.read_text(encoding="utf-8")) for path in sorted(FOLDER.glob("*.py"))]


def without_docstrings(tree):
    """The nodes of a file without its docstrings."""
    docs = [node.body[0].value for node in ast.walk(tree)
            if isinstance(node, (ast.Module, ast.ClassDef, ast.FunctionDef)) and ast.get_docstring(node) is not None]
    return [node for node in ast.walk(tree) if node not in docs]


def bound_names(nodes):
    """The names that a file gives to something, attributes not among them."""
    names = []
    for node in nodes:
        if isinstance(node, (ast.FunctionDef, ast.ClassDef)):
            names.append(node.name)
        elif isinstance(node, ast.arg):
            names.append(node.arg)
        elif isinstance(node, ast.Name) and not isinstance(node.ctx, ast.Load):
            names.append(node.id)
    return names


def own_methods():
    """The names of the methods of the package's classes."""
    classes = [node for _, text in files() for node in ast.parse(text).body if isinstance(node, ast.ClassDef)]
    return [node.name for each in classes for node in each.body if isinstance(node, ast.FunctionDef)]


class RulesTest(unittest.TestCase):

    def test_only_python_files_stand_in_the_folder(self):
        names = sorted(path.name for path in FOLDER.iterdir() if path.name != "__pycache__")
        self.assertEqual(names, [path.name for path, _ in files()])
        self.assertIn("__init__.py", names)
        for name in names:
            self.assertTrue(re.fullmatch(r"[a-z_]+\.py", name), name)

    def test_characters_and_sizes(self):
        for path, text in files():
            with self.subTest(path.name):
                self.assertTrue(all(" " <= sign <= "~" or sign == "\n" for sign in text))
                self.assertLessEqual(len(text.splitlines()), 399)
                self.assertLessEqual(max(len(line) for line in text.splitlines()), 120)
                for node in ast.walk(ast.parse(text)):
                    if isinstance(node, ast.FunctionDef):
                        self.assertLessEqual(node.end_lineno - node.lineno + 1, 40, node.name)

    def test_imports_name_the_file_that_defines(self):
        defined = set()
        for path, text in files():
            for node in ast.parse(text).body:
                if isinstance(node, (ast.FunctionDef, ast.ClassDef)):
                    defined.add((f"looksfar.{path.stem}", node.name))
                elif isinstance(node, ast.Assign):
                    defined.add((f"looksfar.{path.stem}", node.targets[0].id))
        for path, text in files():
            for node in ast.walk(ast.parse(text)):
                self.assertNotIsInstance(node, ast.Import)
                if isinstance(node, ast.ImportFrom):
                    self.assertEqual(node.level, 0)
                    for alias in node.names:
                        self.assertIsNone(alias.asname)
                        self.assertIn((node.module, alias.name), defined)

    def test_no_two_files_import_from_each_other(self):
        imports = {}
        for path, text in files():
            imports[path.stem] = {node.module.split(".")[-1] for node in ast.parse(text).body
                                  if isinstance(node, ast.ImportFrom)}
        while imports:
            free = [name for name, needed in imports.items() if not needed & set(imports)]
            self.assertNotEqual(free, [], imports)
            imports = {name: needed for name, needed in imports.items() if name not in free}

    def test_names(self):
        methods = METHODS + own_methods()
        for path, text in files():
            nodes = without_docstrings(ast.parse(text))
            with self.subTest(path.name):
                for name in bound_names(nodes):
                    self.assertNotIn(name, dir(builtins))
                    self.assertTrue(re.fullmatch(r"_|_?[A-Za-z][A-Za-z0-9_]*|__init__", name), name)
                for node in nodes:
                    if isinstance(node, ast.Name) and node.id in dir(builtins):
                        self.assertIn(node.id, BUILTINS)
                    if isinstance(node, ast.Call) and isinstance(node.func, ast.Attribute):
                        self.assertIn(node.func.attr, methods)

    def test_no_local_name_is_that_of_an_import_or_a_class(self):
        for path, text in files():
            tree = ast.parse(text)
            taken = [alias.name for node in tree.body if isinstance(node, ast.ImportFrom) for alias in node.names]
            taken += [node.name for node in tree.body if isinstance(node, (ast.ClassDef, ast.FunctionDef))]
            for node in ast.walk(tree):
                if isinstance(node, ast.FunctionDef):
                    for name in bound_names(list(ast.walk(node))[1:]):
                        self.assertNotIn(name, taken, path.name)

    def test_variables_of_inner_comprehensions(self):
        comprehensions = (ast.ListComp, ast.SetComp, ast.DictComp, ast.GeneratorExp)

        def variables(node):
            return {name.id for part in node.generators for name in ast.walk(part.target) if isinstance(name, ast.Name)}

        def look(node, outer, inside, name):
            if isinstance(node, comprehensions):
                if inside:
                    self.assertEqual(variables(node) & outer - {"_"}, set(), name)
                outer, inside = outer | variables(node), True
            for child in ast.iter_child_nodes(node):
                look(child, outer, inside, name)

        def assigned(node):
            if isinstance(node, comprehensions):
                return set()
            names = {node.id} if isinstance(node, ast.Name) and isinstance(node.ctx, ast.Store) else set()
            names |= {node.arg} if isinstance(node, ast.arg) else set()
            return names.union(*[assigned(child) for child in ast.iter_child_nodes(node)])

        for path, text in files():
            for node in ast.walk(ast.parse(text)):
                if isinstance(node, ast.FunctionDef):
                    look(node, assigned(node), False, f"{path.name} {node.name}")

    def test_barred_words_and_signs(self):
        for path, text in files():
            with self.subTest(path.name):
                for node in without_docstrings(ast.parse(text)):
                    self.assertNotIsInstance(node, (ast.AsyncFunctionDef, ast.Global, ast.Div))
                    if isinstance(node, ast.Constant):
                        self.assertNotIsInstance(node.value, (float, complex))
                        if isinstance(node.value, str):
                            self.assertNotIn("%", node.value)
                            self.assertNotIn(node.value, WORDS)
                    for name in (getattr(node, "id", None), getattr(node, "attr", None), getattr(node, "arg", None)):
                        self.assertNotIn(name, WORDS)


if __name__ == "__main__":
    unittest.main()
