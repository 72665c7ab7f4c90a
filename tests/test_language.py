"""The form of the package's files, a first sieve: it finds common breaks of the rules of the language, not all.

L11 and L13 are not looked at; of L15, L18, L19, L23, L24, L26 and L28 only a part is.
"""

import ast
import builtins
import io
import pathlib
import re
import tokenize
import unittest

PACKAGE = pathlib.Path(__file__).resolve().parent.parent / "inkloom"

ERRORS = set("""Exception ValueError TypeError KeyError IndexError LookupError ZeroDivisionError ArithmeticError
    OverflowError RuntimeError NotImplementedError AttributeError StopIteration""".split())
KINDS = set("int str bool list tuple dict".split())
CALLS = set("""len range enumerate zip min max sum abs sorted reversed int str bool list tuple dict set frozenset
    isinstance ord repr any all divmod""".split())
KEYS = set("len int str abs sum min max tuple".split())
KEYWORDS = {"sorted": {"key", "reverse"}, "min": {"key", "default"}, "max": {"key", "default"}, "sum": {"start"},
            "enumerate": {"start"}, "zip": {"strict"}}
METHODS = set("""append clear copy count endswith extend find get index insert isalnum isalpha isdigit islower isspace
    isupper items join keys ljust lower lstrip partition pop remove replace reverse rfind rjust rpartition rsplit rstrip
    setdefault split splitlines startswith strip update upper values zfill bit_length""".split())
CHANGING = set("append clear extend insert pop remove reverse setdefault update".split())
WALKED = set("zip enumerate reversed range items keys values".split())
WALKERS = set("list tuple dict sorted sum any all enumerate zip min max join".split())
UNDERSCORED = set("__init__ __eq__ __repr__ __str__ __len__".split())
NO_FILES = set("test tests testing site conftest sitecustomize usercustomize".split())
NO_NAMES = set("""register mro elements open input version_info with_traceback add_note format format_map attrgetter
    breakpoint builtins compile copyright credits delattr dir eval exec exit gc getattr globals hasattr help id
    importlib license locals methodcaller os quit setattr super vars sys""".split())
VALUES = set("count index title find get join lower upper split strip copy add".split())
BUILT_IN = {name for kind in (str, int, list, dict, set, bytes) for name in dir(kind)}
NO_VALUES = BUILT_IN - VALUES | {"args"}
NO_METHODS = BUILT_IN - METHODS - UNDERSCORED - {"add", "discard"}
NO_WORDS = re.compile(r"\b(type|typing|typing_extensions|enum|Enum|IntEnum|StrEnum|Flag|IntFlag|Generic|Protocol|ABC"
                      r"|ABCMeta|namedtuple|NamedTuple|TypedDict|TYPE_CHECKING|abstractmethod)\b"
                      r"|dataclass|overload|contextmanager")
PLAIN_NAME = re.compile(r"[A-Za-z][A-Za-z0-9_]*")
NODES = tuple(getattr(ast, name) for name in """Module FunctionDef ClassDef Return Assign AugAssign For While If Raise
    Try Expr Pass Break Continue BoolOp BinOp UnaryOp Lambda IfExp Dict Set ListComp Compare Call FormattedValue
    JoinedStr Constant Attribute Subscript Name List Tuple Slice comprehension ExceptHandler arguments arg keyword alias
    ImportFrom operator unaryop boolop cmpop expr_context""".split())


def parents_of(tree):
    return {child: node for node in ast.walk(tree) for child in ast.iter_child_nodes(node)}


def top_names(tree):
    """The names that a file's top binds itself, one entry for each binding."""
    names = [node.name for node in tree.body if isinstance(node, (ast.FunctionDef, ast.ClassDef))]
    for node in tree.body:
        if isinstance(node, ast.Assign):
            names += [target.id for target in node.targets if isinstance(target, ast.Name)]
    return names


def called(node):
    """The name of what is called, by itself or as a method; else the empty text."""
    if not isinstance(node, ast.Call):
        return ""
    return getattr(node.func, "id", getattr(node.func, "attr", ""))


def is_plain(node, names):
    if isinstance(node, (ast.List, ast.Tuple)):
        return all(is_plain(one, names) for one in node.elts)
    if isinstance(node, ast.Dict):
        return all(is_plain(one, names) for one in node.keys + node.values)
    if isinstance(node, ast.UnaryOp):
        return isinstance(node.op, ast.USub) and is_plain(node.operand, names)
    return isinstance(node, ast.Constant) or isinstance(node, ast.Name) and node.id in names


class Rules:
    def __init__(self, sources):
        self.sources = sources
        self.trees = {name: ast.parse(source) for name, source in sources.items()}
        self.faults = []
        defs = [node for tree in self.trees.values() for node in ast.walk(tree)]
        self.defs = {node.name for node in defs if isinstance(node, (ast.FunctionDef, ast.ClassDef))}
        self.classes = {node.name for node in defs if isinstance(node, ast.ClassDef)}
        bodies = [one for node in defs if isinstance(node, ast.ClassDef) for one in node.body]
        self.methods = {one.name for one in bodies if isinstance(one, ast.FunctionDef)}
        for name in sources:
            self.check_file(name)
        self.check_circles()

    def need(self, good, rule, name, node):
        if not good:
            self.faults.append((rule, name, getattr(node, "lineno", node)))

    def check_file(self, name):
        self.tree = self.trees[name]
        self.parents = parents_of(self.tree)
        self.imports = [one.name for node in self.tree.body if isinstance(node, ast.ImportFrom) for one in node.names]
        self.check_signs(name, self.sources[name])
        self.check_top(name)
        for node in ast.walk(self.tree):
            good = isinstance(node, NODES) and not isinstance(node, (ast.Div, ast.MatMult, ast.Del))
            self.need(good, "L7", name, node)
            for kind in type(node).__mro__:
                check = getattr(self, "check_" + kind.__name__, None)
                if check is not None:
                    check(name, node)

    def check_signs(self, name, source):
        self.need(re.fullmatch(r"[a-z0-9_]+", name) and name not in NO_FILES, "L14", name, 0)
        self.need(not name.startswith("test_") and name not in dir(builtins), "L14", name, 0)
        self.need(not NO_WORDS.fullmatch(name), "L14", name, 0)
        lines = source.split("\n")
        self.need(len(lines) <= 401, "L10", name, 0)
        for number, line in enumerate(lines, start=1):
            self.need(len(line) <= 120, "L10", name, number)
            self.need(all(" " <= sign <= "~" for sign in line), "L14", name, number)
            self.need(not NO_WORDS.search(line), "L17", name, number)
        for token in tokenize.generate_tokens(io.StringIO(source).readline):
            if token.type == tokenize.STRING:
                escapes = re.findall(r"\\(.|\n)", token.string)
                self.need(all(one in "nt\\\"'" for one in escapes), "L27", name, token.start[0])

    def check_top(self, name):
        names = top_names(self.tree)
        bound = names + self.imports
        self.need(len(bound) == len(set(bound)), "L15", name, 0)
        for place, node in enumerate(self.tree.body):
            good = isinstance(node, (ast.FunctionDef, ast.ClassDef, ast.ImportFrom))
            if isinstance(node, ast.Assign):
                good = is_plain(node.value, names)
                inner = [one for one in ast.walk(node.value) if isinstance(one, (ast.List, ast.Dict))]
                self.need(len(inner) <= 1 and (not inner or inner[0] == node.value), "L15", name, node)
            if place == 0 and isinstance(node, ast.Expr):
                good = isinstance(node.value, ast.Constant)
            self.need(good, "L3", name, node)

    def check_circles(self):
        drawn = {name: {node.module.split(".")[-1] for node in tree.body if isinstance(node, ast.ImportFrom)}
                 for name, tree in self.trees.items()}
        free = set()
        while True:
            more = {name for name in drawn if name not in free and drawn[name] <= free}
            if not more:
                break
            free |= more
        self.need(free == set(drawn), "L16", "the package", 0)

    def check_ImportFrom(self, name, node):
        self.need(node in self.tree.body and node.level == 0, "L2", name, node)
        module = (node.module or "").split(".")
        known = len(module) == 2 and module[0] == "inkloom" and module[1] in self.trees
        self.need(known, "L2", name, node)
        for one in node.names:
            self.need(known and one.name in top_names(self.trees[module[1]]), "L16", name, node)
            self.need(one.asname is None, "L16", name, node)

    def check_FunctionDef(self, name, node):
        self.need(node.end_lineno - node.lineno < 40, "L10", name, node)
        self.need(not node.decorator_list, "L4", name, node)
        self.need(node.returns is None, "L21", name, node)
        in_class = isinstance(self.parents[node], ast.ClassDef)
        self.need(PLAIN_NAME.fullmatch(node.name) or in_class and node.name in UNDERSCORED, "L12", name, node)
        self.need(node.name not in NO_NAMES, "L17", name, node)
        self.need(in_class or node.name not in dir(builtins), "L15", name, node)
        self.need(not in_class or node.name not in NO_METHODS, "L26", name, node)
        if node.name == "__init__":
            returns = [one for one in ast.walk(node) if isinstance(one, ast.Return)]
            self.need(all(one.value is None for one in returns), "L28", name, node)

    def check_arguments(self, name, node):
        owner = self.parents[node]
        self.need(not (node.posonlyargs or node.vararg or node.kwonlyargs or node.kwarg), "L4", name, owner)
        self.need(all(is_plain(one, []) for one in node.defaults), "L4", name, owner)

    def check_arg(self, name, node):
        self.need(node.annotation is None, "L21", name, node)
        self.check_bound(name, node, node.arg)

    def check_ClassDef(self, name, node):
        self.need(node in self.tree.body, "L15", name, node)
        self.need(len(node.bases) <= 1 and not node.keywords and not node.decorator_list, "L5", name, node)
        methods = [one.name for one in node.body if isinstance(one, ast.FunctionDef)]
        self.need(len(methods) == len(set(methods)), "L18", name, node)
        for one in node.body:
            self.need(isinstance(one, (ast.FunctionDef, ast.Pass)), "L5", name, one)

    def check_bound(self, name, node, bound):
        self.need(PLAIN_NAME.fullmatch(bound), "L12", name, node)
        self.need(bound not in dir(builtins) and bound not in NO_NAMES, "L15", name, node)
        self.need(bound not in self.imports and bound not in self.classes, "L15", name, node)

    def check_Name(self, name, node):
        if isinstance(node.ctx, ast.Store):
            self.check_bound(name, node, node.id)
            return
        self.need(PLAIN_NAME.fullmatch(node.id) and node.id not in NO_NAMES, "L17", name, node)
        self.need(node.id not in dir(builtins) or node.id in CALLS | ERRORS, "L8", name, node)
        if node.id in CALLS:
            good = self.is_called(node) or self.is_kind(node) and node.id in KINDS or self.is_key(node)
            self.need(good, "L22", name, node)
        if node.id in self.classes | ERRORS:
            parent = self.parents[node]
            good = self.is_called(node) or self.is_kind(node) or isinstance(parent, (ast.ClassDef, ast.ExceptHandler))
            good = good or isinstance(parent, ast.Tuple) and isinstance(self.parents[parent], ast.ExceptHandler)
            good = good or isinstance(parent, ast.Attribute) and parent.attr == "__init__"
            self.need(good, "L18", name, node)

    def is_called(self, node):
        parent = self.parents[node]
        return isinstance(parent, ast.Call) and parent.func == node

    def is_kind(self, node):
        parent = self.parents[node]
        if isinstance(parent, ast.Tuple):
            node, parent = parent, self.parents[parent]
        return called(parent) == "isinstance" and node in parent.args[1:]

    def is_key(self, node):
        parent = self.parents[node]
        return isinstance(parent, ast.keyword) and parent.arg == "key" and node.id in KEYS

    def check_Attribute(self, name, node):
        good = PLAIN_NAME.fullmatch(node.attr) or node.attr == "__init__"
        self.need(good and node.attr not in NO_NAMES, "L17", name, node)
        if self.is_called(node):
            self.need(node.attr in METHODS or node.attr in self.defs or node.attr == "__init__", "L25", name, node)
        elif isinstance(node.ctx, ast.Store):
            self.need(node.attr not in NO_VALUES, "L26", name, node)
            self.need(node.attr not in self.methods, "L18", name, node)
        else:
            self.need(node.attr not in METHODS - VALUES, "L25", name, node)

    def check_Call(self, name, node):
        word = called(node)
        known = KEYWORDS.get(word, set()) if isinstance(node.func, ast.Name) else set()
        for keyword in node.keywords:
            self.need(keyword.arg is not None and (keyword.arg in known or word in self.defs), "L22", name, node)
        if word in CHANGING and isinstance(node.func, ast.Attribute):
            self.need(getattr(node.func.value, "id", "") not in top_names(self.tree), "L15", name, node)
            self.check_loops(name, node, ast.dump(node.func.value))
        if word in WALKED and word not in self.defs:
            self.check_walked(name, node)
        if word in ("set", "frozenset"):
            parent = self.parents[node]
            good = isinstance(parent, (ast.Compare, ast.BinOp)) or called(parent) in ("sorted", "len")
            self.need(good, "L24", name, node)

    def check_walked(self, name, node):
        parent = self.parents[node]
        good = isinstance(parent, (ast.For, ast.comprehension)) and parent.iter == node
        self.need(good or called(parent) in WALKERS and node in parent.args, "L23", name, node)

    def check_loops(self, name, node, what):
        while node in self.parents:
            node = self.parents[node]
            if isinstance(node, ast.For):
                self.need(ast.dump(node.iter) != what, "L23", name, node)

    def check_Subscript(self, name, node):
        if isinstance(node.ctx, ast.Store):
            self.need(getattr(node.value, "id", "") not in top_names(self.tree), "L15", name, node)

    def check_Assign(self, name, node):
        # The rule asks for one target: a row of names at the left is held to be several.
        plain = isinstance(node.targets[0], (ast.Name, ast.Attribute, ast.Subscript))
        self.need(len(node.targets) == 1 and plain, "L6", name, node)

    def check_For(self, name, node):
        self.need(not node.orelse, "L6", name, node)

    def check_While(self, name, node):
        self.need(not node.orelse, "L6", name, node)

    def check_Try(self, name, node):
        self.need(not node.finalbody, "L6", name, node)

    def check_ExceptHandler(self, name, node):
        words = [getattr(one, "id", "") for one in (ast.walk(node.type) if node.type else [])]
        self.need(words and "Exception" not in words and "TypeError" not in words, "L19", name, node)

    def check_Raise(self, name, node):
        self.need(isinstance(node.exc, ast.Call), "L19", name, node)

    def check_Expr(self, name, node):
        self.need(isinstance(node.value, ast.Call) or node == self.tree.body[0], "L6", name, node)

    def check_ListComp(self, name, node):
        self.need(len(node.generators) == 1 and len(node.generators[0].ifs) <= 1, "L7", name, node)

    def check_FormattedValue(self, name, node):
        good = isinstance(node.value, ast.Name) and node.format_spec is None and node.conversion in (-1, 114)
        self.need(good, "L7", name, node)

    def check_Constant(self, name, node):
        self.need(node.value is None or isinstance(node.value, (int, str)), "L7", name, node)
        self.need(not isinstance(node.value, str) or "%" not in node.value, "L27", name, node)

    def check_BinOp(self, name, node):
        if isinstance(node.op, ast.Pow):
            power = getattr(node.right, "value", None)
            self.need(isinstance(power, int) and 0 <= power <= 64, "L27", name, node)

    def check_Compare(self, name, node):
        for sign, what in zip(node.ops, node.comparators):
            if isinstance(sign, (ast.Is, ast.IsNot)):
                good = isinstance(what, ast.Constant) and (what.value is None or isinstance(what.value, bool))
                self.need(good, "L20", name, node)

    def check_Set(self, name, node):
        parent = self.parents[node]
        self.need(isinstance(parent, ast.Compare) and isinstance(parent.ops[0], (ast.In, ast.NotIn)), "L24", name, node)


BAD = [
    ("L2", "from inkloom.nothing import some\n"), ("L3", "1 + 1\n"), ("L3", "A = len([])\n"),
    ("L4", "def f(*a):\n    pass\n"), ("L4", "def f(*, a):\n    pass\n"), ("L5", "class A:\n    a = 1\n"),
    ("L6", "def f():\n    a = b = 1\n"), ("L6", "def f(c):\n    a, b = c\n"),
    ("L6", "def f(a):\n    a\n"), ("L7", "def f(a):\n    return a / 2\n"),
    ("L7", "def f(a):\n    return a * 1.5\n"), ("L7", "def f(a):\n    assert a\n"),
    ("L7", "def f(a):\n    return f(b for b in a)\n"), ("L7", "def f(a):\n    return f'{a[0]}'\n"),
    ("L8", "def f(a):\n    return hash(a)\n"), ("L8", "def f(a):\n    return chr(a)\n"),
    ("L10", "def f(a):\n" + "    a = 1\n" * 40), ("L10", "# " + "a" * 120 + "\n"), ("L10", "# a\n" * 402),
    ("L12", "def f():\n    _ = 1\n"), ("L14", "# \t\n"), ("L15", "A = 1\nA = 2\n"), ("L15", "A = [[1]]\n"),
    ("L15", "A = []\n\n\ndef f():\n    A.append(1)\n"), ("L15", "A = []\n\n\ndef f():\n    A[0] = 1\n"),
    ("L15", "def f(hash):\n    pass\n"), ("L17", "# a type\n"), ("L17", "def f(a):\n    return a.elements\n"),
    ("L18", "class A:\n    pass\n\n\ndef f():\n    return [A]\n"), ("L19", "def f(a):\n    raise a\n"),
    ("L18", "class A:\n    def b(self):\n        self.b = 1\n"),
    ("L19", "def f(a):\n    try:\n        f(a)\n    except TypeError:\n        pass\n"),
    ("L20", "def f(a):\n    return a is f\n"), ("L21", "def f(a: int):\n    return a\n"),
    ("L22", "def f(a):\n    return isinstance(a, set)\n"), ("L25", "def f(a):\n    return a.append\n"),
    ("L22", "def f(a):\n    return [len]\n"), ("L22", "def f(a):\n    return a.split(sep=a)\n"),
    ("L23", "def f(a):\n    b = range(a)\n    return b\n"),
    ("L23", "def f(a):\n    for b in a:\n        a.append(b)\n"),
    ("L26", "class A:\n    def sort(self):\n        pass\n"), ("L26", "def f(a):\n    a.keys = 1\n"),
    ("L28", "class A:\n    def __init__(self):\n        return None\n"),
    ("L24", "def f(a):\n    a = set(a)\n"), ("L25", "def f(a):\n    a.sort()\n"), ("L27", "A = '%'\n"),
    ("L27", "A = '\\x41'\n"), ("L27", "def f(a):\n    return 2 ** a\n"),
]


class LanguageTest(unittest.TestCase):
    def test_the_package_keeps_to_the_rules(self):
        sources = {path.stem: path.read_text("utf-8") for path in sorted(PACKAGE.glob("*.py"))}
        self.assertIn("__init__", sources)
        self.assertEqual(Rules(sources).faults, [])

    def test_nothing_but_python_files_lies_in_the_package(self):
        others = [path.name for path in PACKAGE.iterdir() if path.suffix != ".py" and path.name != "__pycache__"]
        self.assertEqual(others, [])

    def test_good_code_has_no_faults(self):
        self.assertEqual(Rules({"plain": "def f(a):\n    return [b for b in a if b is not None]\n"}).faults, [])

    def test_bad_code_is_found(self):
        for rule, source in BAD:
            rules = [fault[0] for fault in Rules({"plain": source}).faults]
            self.assertIn(rule, rules, source)

    def test_bad_files_are_found(self):
        for name in ("test_plain", "tests", "site", "len", "Plain", "enum"):
            self.assertIn("L14", [fault[0] for fault in Rules({name: ""}).faults], name)

    def test_circles_are_found(self):
        one = "from inkloom.two import g\n\n\ndef f():\n    return g()\n"
        two = "from inkloom.one import f\n\n\ndef g():\n    return f()\n"
        self.assertEqual([fault[0] for fault in Rules({"one": one, "two": two}).faults], ["L16"])


if __name__ == "__main__":
    unittest.main()
