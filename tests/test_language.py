"""The plain Python subset of the package, as far as a test can see it."""

import ast
import builtins
import pathlib
import re
import tokenize
import unittest

PACKAGE = pathlib.Path(__file__).resolve().parent.parent / "everyohm"
FILES = sorted(PACKAGE.glob("*.py"))
LIBRARY = {"math": {"gcd", "lcm", "isqrt", "comb", "perm", "factorial"}}
NODES = (
    ast.Module, ast.Expr, ast.Constant, ast.ImportFrom, ast.alias, ast.FunctionDef, ast.arguments, ast.arg, ast.Return,
    ast.ClassDef, ast.Assign, ast.AugAssign, ast.For, ast.While, ast.If, ast.Raise, ast.Try, ast.ExceptHandler, ast.Pass,
    ast.Break, ast.Continue, ast.BoolOp, ast.And, ast.Or, ast.BinOp, ast.Add, ast.Sub, ast.Mult, ast.FloorDiv, ast.Mod,
    ast.Pow, ast.UnaryOp, ast.Not, ast.USub, ast.IfExp, ast.Dict, ast.ListComp, ast.SetComp, ast.DictComp, ast.GeneratorExp,
    ast.comprehension, ast.Compare, ast.Eq, ast.NotEq, ast.Lt, ast.LtE, ast.Gt, ast.GtE, ast.Is, ast.IsNot, ast.In, ast.NotIn,
    ast.Call, ast.keyword, ast.FormattedValue, ast.JoinedStr, ast.Attribute, ast.Subscript, ast.Slice, ast.Name, ast.Load,
    ast.Store, ast.List, ast.Tuple, ast.Yield, ast.LShift, ast.Starred,
)
BUILTINS = set(
    "len range enumerate zip min max sum abs sorted reversed int str bool list tuple dict set isinstance ord repr any all "
    "divmod ValueError KeyError".split()
)
METHODS = set(
    "append clear copy count endswith extend find get index insert isalnum isalpha isdigit islower isspace isupper items "
    "join keys ljust lower lstrip partition pop remove replace reverse rfind rjust rpartition rsplit rstrip setdefault split "
    "splitlines startswith strip update upper values zfill bit_length add discard".split()
)
NOWHERE = set("register mro elements open input law version_info with_traceback add_note".split())
NO_NAMES = set(
    "attrgetter breakpoint builtins compile copyright credits delattr dir eval exec exit gc getattr globals hasattr help id "
    "importlib license locals methodcaller os quit setattr super type vars sys __name__".split()
)
NO_WORDS = set(
    "type typing typing_extensions enum Enum IntEnum StrEnum Flag IntFlag Generic Protocol ABC ABCMeta namedtuple NamedTuple "
    "TypedDict TYPE_CHECKING abstractmethod".split()
)
NO_FILES = set("test tests testing site conftest sitecustomize usercustomize".split())
ATTRIBUTES_NOT_FREE = METHODS - set("count index find get join lower upper split strip copy add".split())


def parsed(path):
    return ast.parse(path.read_text(encoding="utf-8"), filename=str(path))


def bound_at_module_level(tree):
    """Return the names that a file binds, those of imports apart."""
    names, imports = [], []
    for row in tree.body:
        if isinstance(row, (ast.FunctionDef, ast.ClassDef)):
            names.append(row.name)
        elif isinstance(row, ast.Assign):
            names.extend(target.id for target in row.targets)
        elif isinstance(row, ast.ImportFrom):
            imports.extend(alias.name for alias in row.names)
    return names, imports


def all_bound(tree):
    """Return all names that are bound anywhere in a file."""
    for node in ast.walk(tree):
        if isinstance(node, (ast.FunctionDef, ast.ClassDef)):
            yield node.name
        elif isinstance(node, ast.arg):
            yield node.arg
        elif isinstance(node, ast.Name) and isinstance(node.ctx, ast.Store):
            yield node.id
        elif isinstance(node, ast.ExceptHandler) and node.name:
            yield node.name


def generators(tree):
    """Return the functions of a file that yield."""
    return [
        row for row in tree.body
        if isinstance(row, ast.FunctionDef) and any(isinstance(node, ast.Yield) for node in ast.walk(row))
    ]


def local_names(tree):
    """Return all names that are bound within functions of a file."""
    for function in ast.walk(tree):
        if isinstance(function, ast.FunctionDef):
            for node in function.body + [function.args]:
                yield from all_bound(node)


class LanguageTest(unittest.TestCase):
    def each(self):
        self.assertTrue(FILES)
        for path in FILES:
            with self.subTest(file=path.name):
                yield path, parsed(path)

    def test_files(self):
        self.assertTrue((PACKAGE / "__init__.py").exists())
        self.assertLessEqual(len(FILES), 100)
        for path in PACKAGE.iterdir():
            if path.name != "__pycache__":
                self.assertRegex(path.name, r"^[a-z_][a-z0-9_]*\.py$")
                self.assertNotIn(path.stem, NO_FILES | NO_WORDS | set(dir(builtins)))
                self.assertFalse(path.stem.startswith(("law_", "test_")))

    def test_sizes_and_characters(self):
        for path, tree in self.each():
            text = path.read_text(encoding="utf-8")
            lines = text.split("\n")
            self.assertLessEqual(len(lines), 400)
            self.assertLessEqual(max(len(line) for line in lines), 120)
            self.assertTrue(all(sign == "\n" or " " <= sign <= "~" for sign in text))
            for node in ast.walk(tree):
                if isinstance(node, ast.FunctionDef):
                    self.assertLessEqual(node.end_lineno - node.lineno + 1, 40, node.name)

    def test_nodes(self):
        for _, tree in self.each():
            for node in ast.walk(tree):
                self.assertIsInstance(node, NODES)
                if isinstance(node, ast.FunctionDef):
                    self.assertEqual(node.decorator_list, [])
                    self.assertEqual((node.args.defaults, node.args.kwonlyargs), ([], []))
                    self.assertIsNone(node.args.vararg or node.args.kwarg)
                if isinstance(node, ast.Constant):
                    self.assertNotIsInstance(node.value, (float, complex, bytes))
                if isinstance(node, ast.Starred):
                    self.assertIsInstance(node.value, ast.Name)
                if isinstance(node, ast.BinOp) and isinstance(node.op, ast.Pow):
                    self.assertIsInstance(node.right, ast.Constant)
                    self.assertLessEqual(node.right.value, 64)

    def test_module_level(self):
        for _, tree in self.each():
            self.assertIsNotNone(ast.get_docstring(tree))
            seen_other = False
            for row in tree.body[1:]:
                self.assertIsInstance(row, (ast.ImportFrom, ast.FunctionDef, ast.ClassDef, ast.Assign))
                if isinstance(row, ast.ImportFrom):
                    self.assertFalse(seen_other, "imports stand at the top")
                else:
                    seen_other = True
                if isinstance(row, ast.Assign):
                    self.check_plain(row, tree)

    def check_plain(self, row, tree):
        self.assertEqual(len(row.targets), 1)
        self.assertIsInstance(row.targets[0], ast.Name)
        above = {one.name for one in tree.body if isinstance(one, ast.FunctionDef) and one.lineno < row.lineno}
        for node in ast.walk(row.value):
            self.assertIsInstance(node, (ast.Constant, ast.Tuple, ast.List, ast.Dict, ast.Load, ast.Name, ast.UnaryOp, ast.USub))
            if isinstance(node, ast.Name):
                self.assertIn(node.id, above)
            if node is not row.value:
                self.assertNotIsInstance(node, (ast.List, ast.Dict))

    def test_names_are_bound_once(self):
        for _, tree in self.each():
            names, imports = bound_at_module_level(tree)
            self.assertEqual(len(set(names + imports)), len(names + imports))
            classes = {row.name for row in tree.body if isinstance(row, ast.ClassDef)}
            self.assertFalse((classes | set(imports)) & set(local_names(tree)))

    def test_imports(self):
        files = {path.stem: parsed(path) for path in FILES}
        needs = {}
        for path, tree in self.each():
            needs[path.stem] = set()
            used = {node.id for node in ast.walk(tree) if isinstance(node, ast.Name)}
            for row in ast.walk(tree):
                if not isinstance(row, ast.ImportFrom):
                    continue
                self.assertEqual(row.level, 0)
                for alias in row.names:
                    self.assertIsNone(alias.asname)
                    self.assertIn(alias.name, used)
                if row.module in LIBRARY:
                    self.assertLessEqual({alias.name for alias in row.names}, LIBRARY[row.module])
                    continue
                folder, _, file = row.module.partition(".")
                self.assertEqual(folder, "everyohm")
                needs[path.stem].add(file)
                names, _ = bound_at_module_level(files[file])
                self.assertLessEqual({alias.name for alias in row.names}, set(names))
        while needs:
            free = [file for file in needs if not needs[file] & set(needs)]
            self.assertTrue(free, f"files import one another: {sorted(needs)}")
            needs = {file: needs[file] for file in needs if file not in free}

    def test_names(self):
        taken = set(dir(builtins)) | NOWHERE | NO_NAMES
        for _, tree in self.each():
            for name in all_bound(tree):
                self.assertRegex(name, r"^(_|_?[A-Za-z][A-Za-z0-9_]*|__init__)$")
                self.assertNotIn(name, taken)
            for node in ast.walk(tree):
                if isinstance(node, ast.Name) and node.id == "_":
                    self.assertIsInstance(node.ctx, ast.Store)

    def test_builtins_and_methods(self):
        own = {name for path in FILES for name in all_bound(parsed(path))}
        stored = {
            node.attr for path in FILES for node in ast.walk(parsed(path))
            if isinstance(node, ast.Attribute) and isinstance(node.ctx, ast.Store)
        }
        self.assertFalse(stored & (ATTRIBUTES_NOT_FREE | NOWHERE))
        for _, tree in self.each():
            known = set(all_bound(tree)) | set(bound_at_module_level(tree)[1]) | BUILTINS
            for node in ast.walk(tree):
                if isinstance(node, ast.Name) and isinstance(node.ctx, ast.Load):
                    self.assertIn(node.id, known)
                if isinstance(node, ast.Attribute):
                    self.assertIn(node.attr, own | stored | METHODS)
                if isinstance(node, ast.keyword):
                    self.assertIn(node.arg, ("key", "reverse", "default", "start"))

    def test_classes(self):
        methods, stored = {}, {}
        for path, tree in self.each():
            for row in tree.body:
                if not isinstance(row, ast.ClassDef):
                    continue
                methods[row.name] = [one.name for one in row.body if isinstance(one, ast.FunctionDef)]
                self.assertEqual(len(set(methods[row.name])), len(methods[row.name]))
                self.assertFalse([name for name in methods[row.name] if name.startswith("__") and name != "__init__"])
                stored[row.name] = {
                    node.attr for node in ast.walk(row) if isinstance(node, ast.Attribute) and isinstance(node.ctx, ast.Store)
                }
                self.assertFalse(set(methods[row.name]) & stored[row.name])
                # Sets are kept in variables, so no own object may have their methods.
                self.assertFalse({"add", "discard", "sort"} & (set(methods[row.name]) | stored[row.name]))
                for one in row.body:
                    self.assertTrue(isinstance(one, ast.FunctionDef) or ast.get_docstring(row) is not None)

    def test_raises(self):
        for _, tree in self.each():
            for node in ast.walk(tree):
                if isinstance(node, ast.Raise):
                    self.assertIsInstance(node.exc, ast.Call)
                    self.assertIsInstance(node.exc.func, ast.Name)
                    self.assertEqual(node.exc.keywords, [])

    def test_strings_and_words(self):
        for path, tree in self.each():
            docs = {
                ast.get_docstring(node, clean=False) for node in ast.walk(tree)
                if isinstance(node, (ast.Module, ast.FunctionDef, ast.ClassDef))
            }
            for node in ast.walk(tree):
                if isinstance(node, ast.Constant) and isinstance(node.value, str):
                    self.assertNotIn("%", node.value)
                    self.assertNotRegex(node.value, r"\._$|\.__$|^__.*__$")
                    if node.value not in docs:
                        self.assertFalse(set(re.findall(r"\w+", node.value)) & NO_WORDS)
            self.check_tokens(path)

    def check_tokens(self, path):
        with open(path, "rb") as lines:
            for token in tokenize.tokenize(lines.readline):
                if token.type == tokenize.NAME:
                    self.assertNotIn(token.string, NO_WORDS | NOWHERE)
                if token.type == tokenize.STRING:
                    self.assertNotRegex(token.string, r"\\[^nt\\'\"]")

    def test_what_is_iterated_at_once(self):
        at_once = {"list", "tuple", "dict", "sorted", "sum", "any", "all", "enumerate", "zip", "min", "max", "join", "range"}
        for _, tree in self.each():
            parents = {child: node for node in ast.walk(tree) for child in ast.iter_child_nodes(node)}
            for node in ast.walk(tree):
                lazy = isinstance(node, ast.Call) and isinstance(node.func, ast.Name) and node.func.id in (
                    "zip", "enumerate", "reversed", "range")
                view = isinstance(node, ast.Call) and isinstance(node.func, ast.Attribute) and node.func.attr in (
                    "items", "keys", "values")
                if not (lazy or view or isinstance(node, ast.GeneratorExp)):
                    continue
                parent = parents[node]
                if isinstance(parent, (ast.For, ast.comprehension)):
                    self.assertIs(parent.iter, node)
                    continue
                self.assertIsInstance(parent, ast.Call)
                called = parent.func.id if isinstance(parent.func, ast.Name) else parent.func.attr
                self.assertIn(called, at_once)
                if called == "join":
                    self.assertIsInstance(parent.func.value, ast.Constant)

    def test_generators(self):
        trees = [tree for _, tree in self.each()]
        made = [row.name for tree in trees for row in generators(tree)]
        self.assertEqual(len(set(made)), len(made))
        functions = [node.name for tree in trees for node in ast.walk(tree) if isinstance(node, ast.FunctionDef)]
        for name in made:
            self.assertEqual(functions.count(name), 1)
            self.assertNotIn(name, METHODS)
        for tree in trees:
            parents = {child: node for node in ast.walk(tree) for child in ast.iter_child_nodes(node)}
            for node in ast.walk(tree):
                if isinstance(node, ast.Name) and node.id in made:
                    call = parents[node]
                    self.assertTrue(isinstance(call, ast.Call) and call.func is node, node.id)
                    self.check_iterated(call, parents)
                if isinstance(node, ast.Yield):
                    self.assertIsInstance(parents[node], ast.Expr)

    def check_iterated(self, call, parents):
        """Check that a generator's call is gone through at once, beside plain arguments."""
        self.assertTrue(all(isinstance(one, (ast.Name, ast.Attribute, ast.Constant)) for one in call.args))
        parent = parents[call]
        if isinstance(parent, (ast.For, ast.comprehension)):
            self.assertIs(parent.iter, call)
            self.assertNotIsInstance(parents[parent], ast.GeneratorExp)
        else:
            self.assertIn(parent.func.id, ("list", "tuple", "dict", "sorted", "sum", "min", "max", "any", "all"))
