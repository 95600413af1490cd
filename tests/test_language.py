"""The rules of LANGUAGE.md, as far as a look at the files of the package can see them."""

import ast
import builtins
import pathlib
import re
import unittest

PACKAGE = pathlib.Path(__file__).resolve().parent.parent / "onceread"
HEAPS = {"heappush", "heappop"}
BUILTINS = set("""len range enumerate zip min max sum abs sorted reversed int str bool bytes list tuple dict set
    frozenset isinstance ord repr any all divmod pow Exception ValueError TypeError KeyError IndexError LookupError
    ZeroDivisionError ArithmeticError OverflowError RuntimeError NotImplementedError AttributeError StopIteration
    NotImplemented iter""".split())
SIGNS = set("""__init__ __eq__ __repr__ __str__ __len__ __enter__ __exit__ __call__ __iter__ __lt__ __le__ __gt__
    __ge__ __ne__ __add__ __sub__ __mul__ __floordiv__ __mod__ __and__ __or__ __xor__ __neg__ __pos__ __invert__
    __abs__ __bool__ __contains__ __getitem__ __setitem__""".split())
METHODS = set("""append clear copy count endswith extend find get index insert isalnum isalpha isdigit islower isspace
    isupper items join keys ljust lower lstrip partition pop remove replace reverse rfind rjust rpartition rsplit
    rstrip setdefault split splitlines startswith strip update upper values zfill bit_length add discard
    isascii isdecimal isnumeric removeprefix removesuffix rindex""".split())
UNUSED = set("""register mro elements open input law version_info with_traceback add_note attrgetter breakpoint
    builtins compile copyright credits delattr dir eval exec exit gc getattr globals hasattr help id importlib license
    locals methodcaller os quit setattr super type vars sys args""".split())
WORDS = re.compile(r"""\b(type|typing|typing_extensions|enum|Enum|IntEnum|StrEnum|Flag|IntFlag|Generic|Protocol|ABC|
    ABCMeta|namedtuple|NamedTuple|TypedDict|TYPE_CHECKING|abstractmethod|_wall|_WallAttr)\b|dataclass|overload|
    contextmanager""", re.VERBOSE)
ATTRIBUTES = set("""items keys values pop update append clear extend insert remove reverse setdefault sort args encode
    decode hex fromhex format format_map mro""".split())
STATEMENTS = (ast.Assign, ast.AugAssign, ast.If, ast.While, ast.For, ast.Return, ast.Break, ast.Continue, ast.Pass,
              ast.Raise, ast.Assert, ast.Delete, ast.With, ast.Expr, ast.FunctionDef, ast.ClassDef, ast.ImportFrom)
KEYWORDS = {"sorted": {"reverse", "key"}, "min": {"key", "default"}, "max": {"key", "default"}, "sum": {"start"},
            "enumerate": {"start"}, "zip": {"strict"}}


def files():
    return sorted(PACKAGE.rglob("*"))


def sources():
    return {path: path.read_text(encoding="utf-8") for path in files() if path.suffix == ".py"}


TREES = {path: ast.parse(source) for path, source in sources().items()}
OWN_CLASSES = {node.name for tree in TREES.values() for node in tree.body if isinstance(node, ast.ClassDef)}
OWN_METHODS = {node.name for tree in TREES.values() for part in tree.body if isinstance(part, ast.ClassDef)
               for node in part.body if isinstance(node, ast.FunctionDef)}


def functions(tree):
    return [node for node in ast.walk(tree) if isinstance(node, ast.FunctionDef)]


def is_doc(node):
    return isinstance(node, ast.Expr) and isinstance(node.value, ast.Constant) and isinstance(node.value.value, str)


def is_plain(node, functions=()):
    if isinstance(node, ast.Name):
        return node.id in functions
    if isinstance(node, ast.Constant):
        return isinstance(node.value, (int, str, bytes, bool)) or node.value is None
    if isinstance(node, (ast.Tuple, ast.List)):
        return all(is_plain(part, functions) for part in node.elts)
    if isinstance(node, ast.Dict):
        return all(is_plain(part, functions) for part in node.keys + node.values)
    return False


def bound_names(node):
    """The names that a target binds."""
    return [part.id for part in ast.walk(node) if isinstance(part, ast.Name) and isinstance(part.ctx, ast.Store)]


def parameters(function):
    rest = [part for part in (function.args.vararg, function.args.kwarg) if part]
    return [part.arg for part in function.args.args + function.args.kwonlyargs + function.args.posonlyargs + rest]


def locals_of(function):
    return set(parameters(function)) | set(bound_names(function))


class Language(unittest.TestCase):
    def each(self, wanted):
        for path, tree in TREES.items():
            for node in ast.walk(tree):
                if isinstance(node, wanted):
                    with self.subTest(file=path.name, line=getattr(node, "lineno", 0)):
                        yield path, node

    def test_files(self):
        found = [path for path in files() if "__pycache__" not in path.parts]
        self.assertLessEqual(len(found), 100)
        for path in found:
            with self.subTest(path=path.name):
                self.assertRegex(path.name, r"^([a-z][a-z0-9_]*|__init__)\.py$")
                self.assertNotIn(path.stem, dir(builtins))
                self.assertFalse(path.stem.startswith(("test", "law_")))
        self.assertIn(PACKAGE / "__init__.py", found)

    def test_characters_and_sizes(self):
        for path, source in sources().items():
            with self.subTest(path=path.name):
                self.assertTrue(all(sign == "\n" or " " <= sign <= "~" for sign in source))
                self.assertLessEqual(len(source.splitlines()), 399)
                self.assertTrue(all(len(line) <= 120 for line in source.splitlines()))
                self.assertTrue(source.endswith("\n"))

    def test_lengths_of_functions(self):
        for _, node in self.each(ast.FunctionDef):
            self.assertLessEqual(node.end_lineno - node.lineno + 1, 40, node.name)

    def test_docstrings(self):
        for path, tree in TREES.items():
            self.assertTrue(ast.get_docstring(tree), path.name)
            for node in ast.walk(tree):
                if isinstance(node, (ast.ClassDef, ast.FunctionDef)) and not node.name.startswith("_"):
                    self.assertTrue(ast.get_docstring(node), path.name + " " + node.name)

    def test_module_level(self):
        for path, tree in TREES.items():
            names = []
            for at, node in enumerate(tree.body):
                with self.subTest(file=path.name, line=node.lineno):
                    if isinstance(node, ast.Assign):
                        self.assertEqual(len(node.targets), 1)
                        self.assertIsInstance(node.targets[0], ast.Name)
                        self.assertTrue(is_plain(node.value, names))
                        names.append(node.targets[0].id)
                    elif isinstance(node, ast.ImportFrom):
                        names += [part.name for part in node.names]
                    elif isinstance(node, (ast.FunctionDef, ast.ClassDef)):
                        names.append(node.name)
                    else:
                        self.assertTrue(at == 0 and is_doc(node))
            self.assertEqual(len(names), len(set(names)), path.name)

    def test_imports(self):
        needs = {}
        for path, node in self.each((ast.Import, ast.ImportFrom)):
            self.assertIsInstance(node, ast.ImportFrom)
            self.assertIn(node, TREES[path].body)
            self.assertEqual(node.level, 0)
            self.assertTrue(all(part.asname is None and part.name != "*" for part in node.names))
            if node.module == "heapq":
                self.assertLessEqual({part.name for part in node.names}, HEAPS)
                continue
            self.assertTrue(node.module.startswith("onceread."), node.module)
            other = PACKAGE / (node.module.split(".")[1] + ".py")
            defined = [part.name if isinstance(part, (ast.FunctionDef, ast.ClassDef)) else part.targets[0].id
                       for part in TREES[other].body if isinstance(part, (ast.FunctionDef, ast.ClassDef, ast.Assign))]
            for part in node.names:
                self.assertIn(part.name, defined)
                self.assertRegex(sources()[path].split("\n", node.end_lineno)[-1], r"\b" + part.name + r"\b")
            needs.setdefault(path, set()).add(other)
        for path in TREES:
            met, stack = set(), list(needs.get(path, ()))
            while stack:
                other = stack.pop()
                if other not in met:
                    met.add(other)
                    stack += needs.get(other, ())
            self.assertNotIn(path, met, "imports itself by other files")

    def test_statements(self):
        for path, node in self.each(ast.stmt):
            self.assertIsInstance(node, STATEMENTS)
            if isinstance(node, ast.Expr):
                self.assertTrue(is_doc(node) or isinstance(node.value, (ast.Call, ast.Yield, ast.YieldFrom)))
        for path, node in self.each((ast.Lambda, ast.GeneratorExp, ast.Starred, ast.Await, ast.NamedExpr,
                                     ast.AnnAssign)):
            self.fail("not used in this package so far: look at its rule first")

    def test_functions(self):
        for path, node in self.each(ast.FunctionDef):
            self.assertIsNone(node.returns)
            self.assertFalse(node.args.posonlyargs or node.args.kwarg)
            for default in node.args.defaults + [part for part in node.args.kw_defaults if part]:
                self.assertTrue(is_plain(default) and not isinstance(default, (ast.List, ast.Dict)))
            for part in ast.walk(node.args):
                if isinstance(part, ast.arg):
                    self.assertIsNone(part.annotation)
            self.assertFalse([part for part in ast.walk(node) if isinstance(part, ast.FunctionDef) and part is not node])

    def test_generators(self):
        generators, others = [], []
        for path, node in self.each(ast.FunctionDef):
            if any(isinstance(part, (ast.Yield, ast.YieldFrom)) for part in ast.walk(node)):
                generators.append(node.name)
                self.assertFalse(node.decorator_list or node.name.startswith("__"))
                self.assertFalse([part for part in ast.walk(node) if isinstance(part, (ast.Try, ast.With))])
                self.assertFalse([part for part in ast.walk(node) if isinstance(part, ast.Return) and part.value])
            else:
                others.append(node.name)
        self.assertEqual(len(generators), len(set(generators)))
        self.assertFalse(set(generators) & (set(others) | METHODS))
        for path, tree in TREES.items():
            allowed, called = set(), set()
            for node in ast.walk(tree):
                if isinstance(node, (ast.For, ast.comprehension)):
                    allowed.add(node.iter)
                if isinstance(node, ast.YieldFrom):
                    allowed.add(node.value)
                if isinstance(node, ast.Expr) and isinstance(node.value, (ast.Yield, ast.YieldFrom)):
                    allowed.add(node.value)
                if isinstance(node, ast.Call) and isinstance(node.func, ast.Name):
                    called.add(node.func)
                    if node.func.id in ("list", "tuple", "dict", "sorted", "sum", "enumerate", "zip"):
                        allowed |= set(node.args)
            for node in ast.walk(tree):
                if isinstance(node, ast.Call) and isinstance(node.func, ast.Name) and node.func.id in generators:
                    self.assertIn(node, allowed, path.name)
                if isinstance(node, (ast.Yield, ast.YieldFrom)):
                    self.assertIn(node, allowed, path.name)
                if isinstance(node, ast.Name) and node.id in generators:
                    self.assertIn(node, called, path.name)

    def test_heaps(self):
        for path, tree in TREES.items():
            called = {node.func for node in ast.walk(tree) if isinstance(node, ast.Call)}
            for node in ast.walk(tree):
                if isinstance(node, ast.Name) and node.id in HEAPS:
                    self.assertIn(node, called)

    def test_classes(self):
        for path, node in self.each(ast.ClassDef):
            self.assertIn(node, TREES[path].body)
            self.assertFalse(node.decorator_list or node.keywords)
            names = []
            for at, part in enumerate(node.body):
                if not isinstance(part, ast.FunctionDef):
                    self.assertTrue(at == 0 and is_doc(part))
                    continue
                names.append(part.name)
                if part.name.startswith("__"):
                    self.assertIn(part.name, SIGNS)
                for decorator in part.decorator_list:
                    self.assertIn(decorator.id, ("property", "classmethod", "staticmethod"))
            self.assertEqual(len(names), len(set(names)))
            stored = {part.attr for part in ast.walk(node) if isinstance(part, ast.Attribute)
                      and isinstance(part.ctx, ast.Store)}
            self.assertFalse(stored & set(names))
        for path, tree in TREES.items():
            for node in tree.body:
                if isinstance(node, ast.FunctionDef):
                    self.assertFalse(node.decorator_list)

    def test_properties(self):
        properties = {part.name for tree in TREES.values() for node in tree.body if isinstance(node, ast.ClassDef)
                      for part in node.body if isinstance(part, ast.FunctionDef) and any(
                          decorator.id == "property" for decorator in part.decorator_list)}
        methods = {part.name for tree in TREES.values() for node in tree.body if isinstance(node, ast.ClassDef)
                   for part in node.body if isinstance(part, ast.FunctionDef) and not part.decorator_list}
        self.assertFalse(properties & methods)
        for path, node in self.each(ast.Attribute):
            if isinstance(node.ctx, ast.Store):
                self.assertNotIn(node.attr, properties)
                self.assertNotIn(node.attr, methods)
            if node.attr in properties:
                self.assertNotIn(node.attr, METHODS)

    def test_names(self):
        for path, tree in TREES.items():
            known = {part.name for node in tree.body if isinstance(node, ast.ImportFrom) for part in node.names}
            classes = {node.name for node in tree.body if isinstance(node, ast.ClassDef)}
            top = known | classes | {node.name for node in tree.body if isinstance(node, ast.FunctionDef)} | {
                node.targets[0].id for node in tree.body if isinstance(node, ast.Assign)}
            for function in functions(tree):
                own = locals_of(function)
                with self.subTest(file=path.name, function=function.name):
                    self.assertFalse(own & (known | classes), "a name of an import or a class")
                    self.assertFalse(own & set(dir(builtins)), "a name of a builtin")
                    for name in own | {function.name}:
                        self.assertNotIn(name, UNUSED)
                        self.assertTrue(re.match(r"^_?[A-Za-z][A-Za-z0-9_]*$|^_$|^__[a-z]+__$", name), name)
                        self.assertFalse(name.startswith("_wall"))
                    for node in ast.walk(function):
                        if isinstance(node, ast.Name) and isinstance(node.ctx, ast.Load):
                            self.assertNotEqual(node.id, "_")
                            if node.id not in own | top | {"property", "classmethod", "staticmethod"}:
                                self.assertIn(node.id, BUILTINS)

    def test_names_that_begin_with_an_underscore(self):
        barred = re.compile(r"_(wall|pe_|dcw_|enum_|cm_|twin_re_|lay_|law_|stub_|sre|WallAttr)|"
                            r"_(cold|tuplegetter|outside|record|written_out|member_names)[0-9_]*$")
        for path, tree in TREES.items():
            for node in ast.walk(tree):
                for field in ("id", "attr", "name", "arg"):
                    word = getattr(node, field, None)
                    if isinstance(word, str):
                        self.assertIsNone(barred.match(word), path.name + " " + word)

    def test_words(self):
        for path, source in sources().items():
            for line in source.splitlines():
                self.assertFalse(WORDS.search(line.split("#")[0]), path.name + ": " + line)

    def test_attributes(self):
        stored = {node.attr for _, node in self.each(ast.Attribute) if isinstance(node.ctx, ast.Store)}
        self.assertFalse(stored & ATTRIBUTES)
        for path, node in self.each(ast.Attribute):
            self.assertFalse(node.attr.startswith("__"))
            self.assertNotIn(node.attr, UNUSED)
            if isinstance(node.ctx, ast.Load):
                self.assertIn(node.attr, stored | METHODS | OWN_METHODS)
            else:
                self.assertIsInstance(node.value, ast.Name)

    def test_calls(self):
        for path, node in self.each(ast.Call):
            if isinstance(node.func, ast.Attribute):
                self.assertIn(node.func.attr, METHODS | OWN_METHODS)
                if node.func.attr not in OWN_METHODS:
                    self.assertFalse(node.keywords)
            else:
                self.assertIsInstance(node.func, ast.Name)
                if node.func.id in BUILTINS:
                    self.assertLessEqual({part.arg for part in node.keywords}, KEYWORDS.get(node.func.id, set()))

    def test_classes_are_called_or_named_in_isinstance(self):
        for path, tree in TREES.items():
            allowed = set()
            for node in ast.walk(tree):
                if isinstance(node, ast.Call):
                    allowed.add(node.func)
                    if isinstance(node.func, ast.Name) and node.func.id == "isinstance":
                        allowed.add(node.args[1])
                if isinstance(node, ast.ClassDef):
                    allowed |= set(node.bases)
            for node in ast.walk(tree):
                if isinstance(node, ast.Name) and node.id in OWN_CLASSES:
                    self.assertIn(node, allowed, path.name + " " + node.id)

    def test_values(self):
        for path, node in self.each(ast.Constant):
            self.assertNotIsInstance(node.value, (float, complex))
            if isinstance(node.value, str):
                self.assertNotIn("%", node.value)
                self.assertFalse(node.value.endswith(("._", ".__")))
                self.assertNotIn("__", node.value)
        for path, node in self.each((ast.BinOp, ast.AugAssign)):
            self.assertNotIsInstance(node.op, (ast.Div, ast.MatMult, ast.Pow))

    def test_is(self):
        for path, node in self.each(ast.Compare):
            if any(isinstance(sign, (ast.Is, ast.IsNot)) for sign in node.ops):
                sides = [node.left] + node.comparators
                self.assertTrue(any(isinstance(side, ast.Constant) and (side.value is None or side.value is True
                                                                        or side.value is False) for side in sides))

    def test_raise(self):
        for path, node in self.each(ast.Raise):
            self.assertIsNone(node.cause)
            self.assertIsInstance(node.exc, ast.Call)
            self.assertIn(node.exc.func.id, OWN_CLASSES)
            self.assertFalse(node.exc.keywords)

    def test_sets(self):
        for path, tree in TREES.items():
            allowed = set()
            for node in ast.walk(tree):
                if isinstance(node, ast.Call) and isinstance(node.func, ast.Name) and node.func.id in ("sorted", "len"):
                    allowed |= set(node.args)
            for node in ast.walk(tree):
                made = isinstance(node, (ast.Set, ast.SetComp)) or (
                    isinstance(node, ast.Call) and isinstance(node.func, ast.Name) and node.func.id in ("set", "frozenset"))
                if made:
                    self.assertIn(node, allowed, path.name + " " + str(node.lineno))

    def test_iterated_at_once(self):
        for path, tree in TREES.items():
            allowed = set()
            for node in ast.walk(tree):
                if isinstance(node, ast.For):
                    allowed.add(node.iter)
                if isinstance(node, ast.comprehension):
                    allowed.add(node.iter)
                if isinstance(node, ast.Call) and isinstance(node.func, ast.Name) and node.func.id in (
                        "list", "tuple", "dict", "sorted", "sum", "enumerate", "zip", "min", "max"):
                    allowed |= set(node.args[:1])
                if isinstance(node, ast.Compare) and isinstance(node.ops[0], (ast.In, ast.NotIn)):
                    allowed |= set(node.comparators)
            for node in ast.walk(tree):
                if isinstance(node, ast.Call):
                    word = node.func.id if isinstance(node.func, ast.Name) else node.func.attr
                    if word in ("zip", "enumerate", "reversed", "range", "items", "keys", "values"):
                        self.assertIn(node, allowed, path.name + " " + str(node.lineno))

    def test_any_and_all_take_lists(self):
        for path, node in self.each(ast.Call):
            if isinstance(node.func, ast.Name) and node.func.id in ("any", "all"):
                self.assertIsInstance(node.args[0], ast.ListComp)

    def test_blocks(self):
        """An `__exit__` only puts back what its object keeps."""
        found = 0
        for path, node in self.each(ast.FunctionDef):
            if node.name == "__exit__":
                found += 1
                self.assertEqual([part.arg for part in node.args.args], ["self", "kind", "value", "trace"])
                for part in node.body:
                    self.assertRegex(ast.unparse(part), r"^([a-z]+ = self\.[a-z]+|[a-z]+\.[a-z]+ = self\.[a-z]+)$")
        self.assertEqual(found, 1)
        for path, node in self.each(ast.With):
            self.assertTrue(all(isinstance(item.context_expr, ast.Call) and item.context_expr.func.id in OWN_CLASSES
                                for item in node.items))

    def test_signs_change_nothing(self):
        for path, node in self.each(ast.FunctionDef):
            decorated = [decorator.id for decorator in node.decorator_list]
            if node.name in ("__init__", "__enter__", "__exit__"):
                continue
            if node.name.startswith("__") or "property" in decorated:
                for part in ast.walk(node):
                    if isinstance(part, (ast.Attribute, ast.Subscript)):
                        self.assertIsInstance(part.ctx, ast.Load)


if __name__ == "__main__":
    unittest.main()
