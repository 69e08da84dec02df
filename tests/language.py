"""Finds breaches of the rules of the language that can be seen in the code of the package."""

import ast
import builtins
import re

ALLOWED_BUILTINS = set(
    "len range enumerate zip min max sum abs sorted reversed int str bool list tuple dict set isinstance ord repr "
    "any all divmod ValueError".split()
)
LIBRARY = {
    "math": {"gcd", "lcm", "isqrt", "comb", "perm", "factorial"},
    "heapq": {"heappush", "heappop", "heapify", "heapreplace", "heappushpop"},
    "itertools": {"product", "combinations", "permutations"},
}
BUILTIN_METHODS = set(
    "append clear copy count endswith extend find get index insert isalnum isalpha isdigit islower isspace isupper "
    "items join keys ljust lower lstrip partition pop remove replace reverse rfind rjust rpartition rsplit rstrip "
    "setdefault split splitlines startswith strip update upper values zfill bit_length".split()
)
DUNDERS = {"__init__", "__eq__", "__repr__", "__str__", "__len__"}
# What builtin values have: no method and no attribute of the package is called so.
OF_VALUES = {name for kind in (str, int, list, tuple, dict, set, bytes) for name in dir(kind)}
NOWHERE = set("register mro elements open input law version_info with_traceback add_note".split())
BARRED_WORDS = (
    r"\b(type|typing|typing_extensions|enum|Enum|IntEnum|StrEnum|Flag|IntFlag|Generic|Protocol|ABC|ABCMeta|"
    r"namedtuple|NamedTuple|TypedDict|TYPE_CHECKING|abstractmethod)\b|dataclass|overload|contextmanager|_wall"
)
BARRED_NAMES = r"__|_(wall|pe_|dcw_|enum_|cm_|twin_re_|lay_|law_|stub_|sre|cold|outside|record|member_names)"
ITERATED = {"range", "zip", "enumerate", "reversed"}
VIEWS = {"items", "keys", "values"}
TAKERS = {"list", "tuple", "dict", "sorted", "sum", "any", "all", "enumerate", "zip", "min", "max"}
BARRED_NODES = (
    ast.GeneratorExp, ast.SetComp, ast.Set, ast.Lambda, ast.Yield, ast.YieldFrom, ast.Global, ast.Nonlocal,
    ast.AsyncFunctionDef, ast.Await, ast.With, ast.Match, ast.Starred, ast.NamedExpr, ast.Div, ast.Delete,
    ast.Assert, ast.AnnAssign,
)
STATEMENTS = (ast.FunctionDef, ast.ClassDef, ast.ImportFrom, ast.Assign)


def breaches(name, source, defined):
    """All breaches in one file; `defined` tells the names that each file of the package defines."""
    return File(name, source, defined).found


class File:
    def __init__(self, name, source, defined):
        self.name = name
        self.source = source
        self.defined = defined
        self.found = []
        self.tree = ast.parse(source)
        self.parents = {}
        for node in ast.walk(self.tree):
            for child in ast.iter_child_nodes(node):
                self.parents[child] = node
        self.imports = {}
        self.own = {}
        self.check_text()
        self.check_module()
        self.check_nodes()
        for node in ast.walk(self.tree):
            if isinstance(node, ast.FunctionDef):
                self.check_function(node)
        self.check_used()

    def tell(self, node, what):
        self.found.append(f"{self.name}:{getattr(node, 'lineno', node)}: {what}")

    def check_text(self):
        rows = self.source.split("\n")
        if len(rows) > 399:
            self.tell(len(rows), "file too long")
        for at, row in enumerate(rows, 1):
            if len(row) > 120:
                self.tell(at, "line too long")
            if not all(" " <= sign <= "~" for sign in row):
                self.tell(at, "character")
            code = re.sub(r'""".*', "", row).split("#")[0]
            if re.search(BARRED_WORDS, code):
                self.tell(at, "barred word")

    def check_module(self):
        for at, node in enumerate(self.tree.body):
            if at == 0 and isinstance(node, ast.Expr) and isinstance(node.value, ast.Constant):
                continue
            if not isinstance(node, STATEMENTS):
                self.tell(node, "statement at module level")
            elif isinstance(node, ast.ImportFrom):
                self.check_import(node)
            elif isinstance(node, ast.Assign):
                if len(node.targets) != 1 or not isinstance(node.targets[0], ast.Name):
                    self.tell(node, "assignment at module level")
                else:
                    self.bind(node, node.targets[0].id, self.own)
            else:
                self.bind(node, node.name, self.own)

    def bind(self, node, name, names):
        if name in self.own or name in self.imports:
            self.tell(node, f"{name} is bound twice")
        names[name] = node

    def check_import(self, node):
        for alias in node.names:
            if alias.asname is not None or alias.name == "*" or node.level:
                self.tell(node, "import")
            elif node.module in LIBRARY:
                if alias.name not in LIBRARY[node.module]:
                    self.tell(node, "import from the library")
            elif alias.name not in self.defined.get(node.module, ()):
                self.tell(node, "import of what is not defined there")
            self.bind(node, alias.name, self.imports)

    def check_nodes(self):
        for node in ast.walk(self.tree):
            if isinstance(node, BARRED_NODES):
                self.tell(node, node.__class__.__name__)
            for check in (
                self.check_constant, self.check_power, self.check_call, self.check_is, self.check_error,
                self.check_name, self.check_attribute, self.check_class, self.check_slice,
            ):
                check(node)

    def check_slice(self, node):
        if isinstance(node, (ast.ListComp, ast.DictComp)):
            if not any(isinstance(above, ast.FunctionDef) for above in self.above(node)):
                self.tell(node, "comprehension at module level")

    def above(self, node):
        while node in self.parents:
            node = self.parents[node]
            yield node

    def check_constant(self, node):
        if not isinstance(node, ast.Constant):
            return
        if isinstance(node.value, (float, complex)) or node.value is Ellipsis:
            self.tell(node, "number")
        if isinstance(node.value, str):
            if "%" in node.value or re.search(r"^__.*__$|\._+$", node.value):
                self.tell(node, "string")
        if isinstance(node.value, bytes):
            self.tell(node, "bytes")

    def check_power(self, node):
        if isinstance(node, ast.BinOp) and isinstance(node.op, ast.Pow):
            if not isinstance(node.right, ast.Constant) or not 0 <= node.right.value <= 64:
                self.tell(node, "power")

    def check_call(self, node):
        if not isinstance(node, ast.Call):
            return
        parent = self.parents[node]
        taken = isinstance(parent, (ast.For, ast.comprehension)) and parent.iter is node
        if isinstance(parent, ast.Call) and isinstance(parent.func, ast.Name) and parent.func.id in TAKERS:
            taken = taken or parent.args[0] is node or parent.func.id == "zip"
        if isinstance(node.func, ast.Name):
            if node.func.id in ITERATED and not taken and not self.is_tested_range(node):
                self.tell(node, "iterated at once")
            if node.func.id == "set" and not self.is_sorted(parent):
                self.tell(node, "set")
            if node.keywords and node.func.id not in ("max", "min", "sorted"):
                self.tell(node, "keyword")
        elif isinstance(node.func, ast.Attribute):
            if node.func.attr in VIEWS and not taken:
                self.tell(node, "iterated at once")
            if node.keywords:
                self.tell(node, "keyword")
        else:
            self.tell(node, "call")

    def is_tested_range(self, node):
        parent = self.parents[node]
        return isinstance(parent, ast.Compare) and node.func.id == "range"

    def is_sorted(self, parent):
        return isinstance(parent, ast.Call) and isinstance(parent.func, ast.Name) and parent.func.id in ("sorted", "len")

    def check_is(self, node):
        if isinstance(node, ast.Compare):
            for op, right in zip(node.ops, node.comparators):
                if isinstance(op, (ast.Is, ast.IsNot)):
                    if not isinstance(right, ast.Constant) or right.value is not None:
                        self.tell(node, "is")

    def check_error(self, node):
        if isinstance(node, ast.Raise):
            if not isinstance(node.exc, ast.Call) or not isinstance(node.exc.func, ast.Name) or node.cause:
                self.tell(node, "raise")
            elif node.exc.func.id not in self.defined["mixlabels.errors"]:
                self.tell(node, "raise of another error")
        if isinstance(node, ast.ExceptHandler):
            caught = node.type
            names = caught.elts if isinstance(caught, ast.Tuple) else [caught]
            for name in names:
                if not isinstance(name, ast.Name) or name.id not in self.defined["mixlabels.errors"]:
                    self.tell(node, "except")

    def check_name(self, node):
        name = None
        if isinstance(node, (ast.FunctionDef, ast.ClassDef)):
            name = node.name
            if node.decorator_list:
                self.tell(node, "decorator")
        elif isinstance(node, ast.arg):
            name = node.arg
        elif isinstance(node, ast.Name):
            name = node.id
        if name is None:
            return
        is_method = isinstance(node, ast.FunctionDef) and isinstance(self.parents[node], ast.ClassDef)
        if name in NOWHERE or re.match(BARRED_NAMES, name) and not (is_method and name in DUNDERS):
            self.tell(node, f"name {name}")
        if name == "_" and isinstance(node, ast.Name) and isinstance(node.ctx, ast.Load):
            self.tell(node, "_ is read")
        bound = not isinstance(node, ast.Name) or not isinstance(node.ctx, ast.Load)
        if bound and not is_method and name in dir(builtins) and name != "_":
            self.tell(node, f"{name} is a builtin")
        if isinstance(node, ast.Name) and isinstance(node.ctx, ast.Load) and name in dir(builtins):
            if name not in ALLOWED_BUILTINS:
                self.tell(node, f"builtin {name}")

    def check_attribute(self, node):
        if not isinstance(node, ast.Attribute):
            return
        if node.attr in NOWHERE or node.attr.startswith("__"):
            self.tell(node, f"attribute {node.attr}")
        called = isinstance(self.parents[node], ast.Call) and self.parents[node].func is node
        if called and node.attr not in BUILTIN_METHODS and node.attr not in self.defined["methods"]:
            self.tell(node, f"method {node.attr}")
        if not called and node.attr not in self.defined["attributes"]:
            self.tell(node, f"attribute {node.attr} is never assigned")
        if not isinstance(node.ctx, ast.Load) and node.attr in OF_VALUES | self.defined["methods"]:
            self.tell(node, f"attribute {node.attr} has the name of a method")

    def check_class(self, node):
        if not isinstance(node, ast.ClassDef):
            return
        if not isinstance(self.parents[node], ast.Module) or len(node.bases) > 1:
            self.tell(node, "class")
        for inner in node.body:
            is_text = isinstance(inner, ast.Expr) and isinstance(inner.value, ast.Constant)
            if not isinstance(inner, ast.FunctionDef) and not is_text:
                self.tell(inner, "body of a class")
            if isinstance(inner, ast.FunctionDef) and inner.name in OF_VALUES - DUNDERS:
                self.tell(inner, f"method {inner.name} has the name of a method of builtin values")

    def check_function(self, node):
        if node.end_lineno - node.lineno + 1 > 40:
            self.tell(node, "function too long")
        if any(isinstance(above, ast.FunctionDef) for above in self.above(node)):
            self.tell(node, "nested function")
        names = {arg.arg for arg in node.args.args}
        for inner in ast.walk(node):
            if isinstance(inner, ast.Name) and not isinstance(inner.ctx, ast.Load):
                names.add(inner.id)
        classes = {name for name, what in self.own.items() if isinstance(what, ast.ClassDef)}
        for name in sorted(names & (classes | set(self.imports))):
            self.tell(node, f"{name} is an import or a class")
        known = names | set(self.own) | set(self.imports) | ALLOWED_BUILTINS
        for inner in ast.walk(node):
            if isinstance(inner, ast.Name) and isinstance(inner.ctx, ast.Load) and inner.id not in known:
                self.tell(inner, f"{inner.id} is not known")
        self.check_loops(node)

    def check_loops(self, node):
        changing = {"append", "extend", "pop", "insert", "remove", "setdefault", "clear", "update", "reverse"}
        for loop in ast.walk(node):
            if not isinstance(loop, ast.For):
                continue
            over = {ast.dump(inner) for inner in ast.walk(loop.iter) if isinstance(inner, (ast.Name, ast.Attribute))}
            for inner in loop.body:
                for deep in ast.walk(inner):
                    target = None
                    if isinstance(deep, ast.Call) and isinstance(deep.func, ast.Attribute):
                        if deep.func.attr in changing:
                            target = deep.func.value
                    elif isinstance(deep, ast.Subscript) and not isinstance(deep.ctx, ast.Load):
                        target = deep.value
                    if target is not None and ast.dump(target) in over:
                        self.tell(deep, "changes what the loop iterates over")

    def check_used(self):
        read = {node.id for node in ast.walk(self.tree) if isinstance(node, ast.Name)}
        for name in self.imports:
            if name not in read:
                self.tell(1, f"{name} is imported, but not used")


def names_defined(source):
    """What a file defines at module level, its methods, and the attributes that it assigns."""
    tree = ast.parse(source)
    names, methods, attributes = set(), set(), set()
    for node in tree.body:
        if isinstance(node, (ast.FunctionDef, ast.ClassDef)):
            names.add(node.name)
        if isinstance(node, ast.ClassDef):
            methods |= {inner.name for inner in node.body if isinstance(inner, ast.FunctionDef)}
        if isinstance(node, ast.Assign):
            names.add(node.targets[0].id)
    for node in ast.walk(tree):
        if isinstance(node, ast.Attribute) and isinstance(node.ctx, ast.Store):
            attributes.add(node.attr)
    return names, methods, attributes


def imports_of(source):
    return sorted({node.module for node in ast.walk(ast.parse(source)) if isinstance(node, ast.ImportFrom)})
