"""Whether the files of the package keep the rules of the language that can be seen in each file by itself."""

import ast
import builtins
import pathlib
import re
import unittest

PACKAGE = pathlib.Path(__file__).resolve().parent.parent / "downhillnet"
LIBRARY = {
    "heapq": {"heappush", "heappop", "heapify", "heapreplace", "heappushpop"},
    "math": {"gcd", "lcm", "isqrt", "comb", "perm", "factorial"},
    "itertools": {
        "product", "combinations", "permutations", "chain", "accumulate", "pairwise", "islice", "zip_longest",
    },
    "collections": {"defaultdict", "deque"},
}
ALL_BUILTINS = set(dir(builtins)) - {"_"}
BUILTINS = set("""len range enumerate zip min max sum abs sorted reversed int str bool list tuple dict set
isinstance ord repr any all divmod pow iter next map Exception ValueError TypeError KeyError IndexError LookupError
ZeroDivisionError ArithmeticError OverflowError RuntimeError NotImplementedError StopIteration NotImplemented super
property staticmethod classmethod""".split())
METHODS = set("""append clear copy count endswith extend find get index insert isalnum isalpha isdigit islower isspace
isupper items join keys ljust lower lstrip partition pop remove replace reverse rfind rjust rpartition rsplit rstrip
setdefault split splitlines startswith strip update upper values zfill bit_length add discard removeprefix removesuffix
isascii isdecimal appendleft popleft extendleft rotate from_iterable""".split())
DOUBLE = set("""__init__ __eq__ __repr__ __str__ __len__ __contains__ __lt__ __le__ __gt__ __ge__ __ne__ __iter__
__call__ __bool__ __add__ __sub__ __mul__ __getitem__ __setitem__ __enter__ __exit__""".split())
NOWHERE = set("register mro elements open input law version_info with_traceback add_note".split())
NO_NAMES = set("""attrgetter breakpoint builtins compile copyright credits delattr dir eval exec exit gc getattr globals
hasattr help id importlib license locals methodcaller os quit setattr super type vars sys __name__""".split())
NO_WORDS = re.compile(
    r"\b(typing|typing_extensions|enum|Enum|IntEnum|StrEnum|Flag|IntFlag|Generic|Protocol|ABC|ABCMeta|namedtuple"
    r"|NamedTuple|TypedDict|TYPE_CHECKING|abstractmethod|frozenset|chr|print|global|async)\b"
    r"|dataclass|overload|contextmanager|_wall|_WallAttr"
)
STATEMENTS = (
    ast.FunctionDef, ast.Assign, ast.AugAssign, ast.If, ast.While, ast.For, ast.Return, ast.Break, ast.Continue,
    ast.Pass, ast.Raise, ast.Assert, ast.Delete, ast.Nonlocal, ast.Match, ast.With, ast.Try, ast.Expr,
)


def names_of(tree):
    """The names that a file gives to anything: functions, classes, parameters, variables, what is imported."""
    for node in ast.walk(tree):
        if isinstance(node, (ast.FunctionDef, ast.ClassDef)):
            yield node.name, node.lineno
        elif isinstance(node, ast.arg):
            yield node.arg, node.lineno
        elif isinstance(node, ast.Name) and isinstance(node.ctx, ast.Store):
            yield node.id, node.lineno
        elif isinstance(node, ast.alias):
            yield node.name.rpartition(".")[2], node.lineno


def docstrings_of(tree):
    """The nodes of all docstrings."""
    for node in ast.walk(tree):
        if isinstance(node, (ast.Module, ast.ClassDef, ast.FunctionDef)) and ast.get_docstring(node) is not None:
            yield node.body[0].value


def wrong_text(text):
    """What breaks L10, L14 and L17 in the text of a file."""
    for number, line in enumerate(text.split("\n"), start=1):
        if len(line) > 120 or not all(" " <= sign <= "~" for sign in line):
            yield "L10 or L14", number
        if NO_WORDS.search(line):
            yield "L17", number
    if text.count("\n") > 399:
        yield "L10", 400


def wrong_top(tree):
    """What breaks L2, L3, L15 and L16 at module level."""
    imports, bound = True, []
    for at, node in enumerate(tree.body):
        if isinstance(node, ast.ImportFrom):
            allowed = node.module.startswith("downhillnet.") or (
                {alias.name for alias in node.names} <= LIBRARY.get(node.module, set()))
            plain = all(alias.asname is None and alias.name != "*" for alias in node.names)
            if not imports or not allowed or not plain or node.level:
                yield "L2", node.lineno
            bound += [alias.name for alias in node.names]
            continue
        if isinstance(node, ast.Expr) and at == 0 and ast.get_docstring(tree) is not None:
            continue
        imports = False
        if isinstance(node, (ast.FunctionDef, ast.ClassDef)):
            bound.append(node.name)
        elif isinstance(node, ast.Assign) and len(node.targets) == 1 and isinstance(node.targets[0], ast.Name):
            bound.append(node.targets[0].id)
            if any(isinstance(part, (ast.Call, ast.ListComp, ast.Set, ast.Lambda)) for part in ast.walk(node.value)):
                yield "L3", node.lineno
        else:
            yield "L3", node.lineno
    if len(bound) != len(set(bound)):
        yield "L15", 1


def wrong_names(tree):
    """What breaks L5, L8, L12, L15 and L17 in names."""
    held = {node.name for node in ast.walk(tree) if isinstance(node, ast.ClassDef)}
    held |= {alias.name for node in ast.walk(tree) if isinstance(node, ast.ImportFrom) for alias in node.names}
    methods = {node.name for made in ast.walk(tree) if isinstance(made, ast.ClassDef) for node in made.body
               if isinstance(node, ast.FunctionDef)}
    for name, line in names_of(tree):
        if name in NOWHERE or name in NO_NAMES or (name in ALL_BUILTINS and name not in methods):
            yield "L15 or L17", line
        plain = re.fullmatch(r"_|__[a-z]+__|_?[A-Za-z][A-Za-z0-9_]*", name)
        if not plain or name.startswith("__") and name not in DOUBLE:
            yield "L12", line
    for node in ast.walk(tree):
        if isinstance(node, ast.Name) and isinstance(node.ctx, ast.Load):
            if node.id == "_" or (node.id in ALL_BUILTINS - BUILTINS):
                yield "L8 or L12", node.lineno
        if isinstance(node, ast.Name) and isinstance(node.ctx, ast.Store) and node.id in held:
            yield "L15", node.lineno
        if isinstance(node, ast.arg) and node.arg in held:
            yield "L15", node.lineno
        if isinstance(node, ast.Attribute) and (node.attr in NOWHERE or node.attr in ("format", "args")):
            yield "L17", node.lineno


def methods_of(tree):
    """The names of all methods of the classes of a file."""
    made = [node for node in ast.walk(tree) if isinstance(node, ast.ClassDef)]
    return {node.name for part in made for node in part.body if isinstance(node, ast.FunctionDef)}


def attributes_of(tree):
    """The names of all attributes that a file assigns."""
    return {
        node.attr for node in ast.walk(tree) if isinstance(node, ast.Attribute) and isinstance(node.ctx, ast.Store)
    }


def wrong_nodes(tree, own):
    """What breaks L4, L6, L7, L20, L24, L25 and L27; own are the names of all methods of the package."""
    documents = list(docstrings_of(tree))
    for node in ast.walk(tree):
        line = getattr(node, "lineno", 1)
        if isinstance(node, ast.stmt) and not isinstance(node, (*STATEMENTS, ast.ImportFrom, ast.ClassDef)):
            yield "L6", line
        if isinstance(node, ast.FunctionDef) and node.end_lineno - node.lineno >= 40:
            yield "L10", line
        if isinstance(node, (ast.FunctionDef, ast.ClassDef)):
            if {ast.unparse(part) for part in node.decorator_list} - {"property", "staticmethod", "classmethod"}:
                yield "L4 or L5", line
        if isinstance(node, ast.BinOp) and isinstance(node.op, (ast.Div, ast.MatMult)):
            yield "L7", line
        # A book has __eq__: so no generator expression stands in any, all, min, max, sum and sorted.
        if isinstance(node, (ast.Await, ast.GeneratorExp, ast.Yield, ast.YieldFrom, ast.Set, ast.SetComp)):
            yield "L7 or L24", line
        if isinstance(node, ast.ExceptHandler) and node.type is None:
            yield "L6", line
        if isinstance(node, ast.Constant) and not isinstance(node.value, (int, str, bytes, bool, type(None))):
            yield "L7", line
        if isinstance(node, ast.Constant) and isinstance(node.value, str) and "%" in node.value:
            if node not in documents:
                yield "L27", line
        if isinstance(node, ast.Compare) and any(isinstance(sign, (ast.Is, ast.IsNot)) for sign in node.ops):
            if not all(isinstance(part, ast.Constant) for part in node.comparators):
                yield "L20", line
        if isinstance(node, ast.BinOp) and isinstance(node.op, ast.Pow) and not isinstance(node.right, ast.Constant):
            yield "L27", line
        if isinstance(node, ast.Call) and isinstance(node.func, ast.Attribute):
            if node.func.attr not in METHODS and node.func.attr not in own and node.func.attr not in DOUBLE:
                yield "L25", line


def wrong_in(text, own=()):
    """All places of a file that break a rule: pairs of rules and lines."""
    tree = ast.parse(text)
    return [*wrong_text(text), *wrong_top(tree), *wrong_names(tree), *wrong_nodes(tree, {*own, *methods_of(tree)})]


class Language(unittest.TestCase):

    def files(self):
        return sorted(path for path in PACKAGE.rglob("*") if path.is_file() and "__pycache__" not in path.parts)

    def test_only_files_with_plain_names(self):
        names = [path.relative_to(PACKAGE).as_posix() for path in self.files()]
        self.assertIn("__init__.py", names)
        for name in names:
            self.assertRegex(name, r"\A([a-z][a-z0-9_]*|__init__|__main__)\.py\Z")

    def trees(self):
        return [ast.parse(path.read_text(encoding="utf-8")) for path in self.files()]

    def test_each_file_keeps_the_rules(self):
        own = set().union(*[methods_of(tree) for tree in self.trees()])
        for path in self.files():
            with self.subTest(path.name):
                self.assertEqual(wrong_in(path.read_text(encoding="utf-8"), own), [])

    def test_no_name_is_a_method_and_an_attribute(self):
        own = set().union(*[methods_of(tree) for tree in self.trees()])
        attributes = set().union(*[attributes_of(tree) for tree in self.trees()])
        self.assertEqual(own & attributes, set())
        # L26: what values of Python's own have as a method is no attribute.
        self.assertEqual(attributes & (METHODS - set("count index find join lower upper split strip copy add".split())), set())

    def test_what_is_called_by_name_takes_what_it_is_passed(self):
        made = {}
        for tree in self.trees():
            for node in tree.body:
                if isinstance(node, ast.FunctionDef):
                    self.assertNotIn(node.name, made)
                    made[node.name] = len(node.args.args)
        for tree in self.trees():
            for node in ast.walk(tree):
                if isinstance(node, ast.Call) and isinstance(node.func, ast.Name) and node.func.id in made:
                    self.assertEqual(len(node.args) + len(node.keywords), made[node.func.id], ast.unparse(node))

    def test_each_import_names_what_stands_in_that_file(self):
        ahead = {}
        for path in self.files():
            tree = ast.parse(path.read_text(encoding="utf-8"))
            ahead[path.stem] = []
            for node in tree.body:
                if isinstance(node, ast.ImportFrom) and node.module.startswith("downhillnet."):
                    other = node.module.partition(".")[2]
                    ahead[path.stem].append(other)
                    there = ast.parse((PACKAGE / f"{other}.py").read_text(encoding="utf-8")).body
                    made = {part.name for part in there if isinstance(part, (ast.FunctionDef, ast.ClassDef))}
                    made |= {part.targets[0].id for part in there if isinstance(part, ast.Assign)}
                    self.assertLessEqual({alias.name for alias in node.names}, made, path.name)
        self.in_some_order(ahead)

    def in_some_order(self, ahead):
        """No two files import from each other, neither directly nor through others."""
        while ahead:
            ready = [name for name, others in ahead.items() if not set(others) & set(ahead)]
            self.assertTrue(ready, ahead)
            ahead = {name: others for name, others in ahead.items() if name not in ready}

    def test_what_breaks_a_rule_is_seen(self):
        for text in [
            "import os", "from os import path", "from downhillnet.books import *", "from math import sqrt", "K = f()",
            "def f():\n    return 1 / 2", "def f():\n    return 1.5", "def f(x):\n    return any(k for k in x)",
            "def f(x):\n    x.sort_it()", "def f(hash):\n    return hash", "def f():\n    return open",
            "x = 1\nx = 2", "def f():\n    global x", "def f():\n    return 'a%'", "def f():\n    import math",
            "async def f():\n    pass",
            "def f():\n" + "    pass\n" * 40, "x = '" + "a" * 120 + "'", "# a\u00e4", "def f(x):\n    return x is f",
            "def f():\n    return {1, 2}", "@f\ndef g():\n    pass", "if 1:\n    pass", "def f(x):\n    return 2 ** x",
        ]:
            with self.subTest(text):
                self.assertNotEqual(wrong_in(text), [])


if __name__ == "__main__":
    unittest.main()
