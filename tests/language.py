"""Judges the files of the package by those rules of the language that a look at the code can tell.

Where the package has no use for something that a rule allows in part, it is refused altogether.
"""

import ast
import builtins
import re
from pathlib import Path

PACKAGE = Path(__file__).resolve().parent.parent / "lotsayings"

LIBRARY = {
    "math": {"gcd", "lcm", "isqrt", "comb", "perm", "factorial"},
    "heapq": {"heappush", "heappop", "heapify", "heapreplace", "heappushpop"},
    "itertools": {"chain", "accumulate", "pairwise", "islice", "zip_longest"},
}
BUILTINS = set(
    "len range enumerate zip min max sum abs sorted reversed int str bool list tuple dict set isinstance ord repr "
    "any all divmod iter super property staticmethod classmethod Exception ValueError TypeError KeyError IndexError "
    "LookupError ZeroDivisionError ArithmeticError OverflowError RuntimeError NotImplementedError "
    "NotImplemented".split()
)
METHODS = set(
    "append clear copy count endswith extend find get index insert isalnum isalpha isdigit islower isspace isupper "
    "items join keys ljust lower lstrip partition pop remove replace reverse rfind rjust rpartition rsplit rstrip "
    "setdefault split splitlines startswith strip update upper values zfill bit_length add discard".split()
)
DUNDERS = set(
    "__init__ __eq__ __repr__ __str__ __len__ __call__ __iter__ __contains__ __and__ __or__ __xor__ "
    "__invert__".split()
)
BARRED = set(
    "register mro elements open input law version_info with_traceback add_note attrgetter breakpoint builtins "
    "compile copyright credits delattr dir eval exec exit gc getattr globals hasattr help id importlib license "
    "locals methodcaller os quit setattr vars sys _cold _tuplegetter _outside _record _written_out "
    "_member_names".split()
)
WORDS = set(
    "type typing typing_extensions enum Enum IntEnum StrEnum Flag IntFlag Generic Protocol ABC ABCMeta namedtuple "
    "NamedTuple TypedDict TYPE_CHECKING abstractmethod".split()
)
LAZY = {"range", "zip", "enumerate", "reversed"}
VIEWS = {"items", "keys", "values"}
TAKERS = {"list", "tuple", "dict", "sorted", "sum", "any", "all", "enumerate", "zip", "min", "max"}
BARRED_NODES = (
    ast.Global, ast.AsyncFunctionDef, ast.AsyncFor, ast.AsyncWith, ast.Await, ast.With, ast.Try, ast.Match,
    ast.GeneratorExp, ast.Div, ast.Pow, ast.NamedExpr, ast.AnnAssign, ast.Import, ast.JoinedStr, ast.Assert,
)
MODULE_NODES = (ast.ImportFrom, ast.FunctionDef, ast.ClassDef, ast.Assign)


class Judge:
    """Collects what is wrong with one file."""

    def __init__(self, path, package):
        self.path = path
        self.package = package
        self.text = path.read_text(encoding="utf-8")
        self.tree = ast.parse(self.text)
        self.wrong = []
        self.above = {}
        for node in ast.walk(self.tree):
            for child in ast.iter_child_nodes(node):
                self.above[child] = node

    def say(self, rule, node):
        line = node if isinstance(node, int) else getattr(node, "lineno", 0)
        self.wrong.append(f"{rule} {self.path.name}:{line}")

    def judge(self):
        self.judge_lines()
        self.judge_module()
        for node in ast.walk(self.tree):
            self.judge_node(node)
            if isinstance(node, ast.FunctionDef):
                self.judge_function(node)
            if isinstance(node, ast.ClassDef):
                self.judge_class(node)
            if isinstance(node, ast.Call):
                self.judge_call(node)
        return self.wrong

    def judge_lines(self):
        lines = self.text.split("\n")
        if len(lines) > 400:
            self.say("L10", 400)
        for at, line in enumerate(lines, 1):
            if len(line) > 120:
                self.say("L10", at)
            if not all(" " <= sign <= "~" for sign in line):
                self.say("L14", at)
            if "_wall" in line or "_WallAttr" in line or re.search("dataclass|overload|contextmanager", line):
                self.say("L12", at)

    def judge_module(self):
        seen = set()
        for at, node in enumerate(self.tree.body):
            docstring = at == 0 and isinstance(node, ast.Expr) and isinstance(node.value, ast.Constant)
            if not docstring and not isinstance(node, MODULE_NODES):
                self.say("L3", node)
            for name in names_bound_by(node):
                if name in seen or name in dir(builtins):
                    self.say("L15", node)
                seen.add(name)
            if isinstance(node, ast.Assign):
                for part in ast.walk(node.value):
                    plain = (ast.Constant, ast.Tuple, ast.List, ast.Dict, ast.Load, ast.USub, ast.UnaryOp, ast.Name)
                    if not isinstance(part, plain):
                        self.say("L3", node)

    def judge_node(self, node):
        if isinstance(node, BARRED_NODES):
            self.say("L6/L7 " + type(node).__name__, node)
        if isinstance(node, ast.ImportFrom):
            self.judge_import(node)
        if isinstance(node, ast.Constant):
            self.judge_constant(node)
        if isinstance(node, ast.Compare):
            for sign, right in zip(node.ops, node.comparators):
                known = isinstance(right, ast.Constant) and right.value in (None, True, False)
                if isinstance(sign, (ast.Is, ast.IsNot)) and not known:
                    self.say("L20", node)
        if isinstance(node, ast.Name):
            if node.id in BARRED or node.id in WORDS or not re.fullmatch("_|_?[A-Za-z][A-Za-z0-9_]*", node.id):
                self.say("L12/L17", node)
            if node.id == "_" and isinstance(node.ctx, ast.Load):
                self.say("L12", node)
            if isinstance(node.ctx, ast.Load) and node.id in dir(builtins) and node.id not in BUILTINS:
                self.say("L8", node)
        if isinstance(node, ast.Attribute):
            if node.attr not in self.package.attributes and node.attr not in METHODS:
                self.say("L18/L25 " + node.attr, node)
        if isinstance(node, (ast.SetComp, ast.Set)):
            self.judge_set(node)
        if isinstance(node, ast.Raise):
            fits = isinstance(node.exc, ast.Call) and isinstance(node.exc.func, ast.Name)
            if not fits:
                self.say("L19", node)

    def judge_import(self, node):
        if node.level or self.above[node] is not self.tree:
            self.say("L2", node)
        if node.module in LIBRARY:
            names = LIBRARY[node.module]
        elif node.module and node.module.startswith("lotsayings."):
            names = self.package.defined.get(node.module.split(".", 1)[1], set())
        else:
            names = set()
        for alias in node.names:
            if alias.asname or alias.name not in names:
                self.say("L2/L16", node)

    def judge_constant(self, node):
        if isinstance(node.value, (float, complex, bytes)):
            self.say("L7", node)
        if isinstance(node.value, str):
            docstring = isinstance(self.above[node], ast.Expr)
            if "%" in node.value or node.value.endswith(("._", ".__")):
                self.say("L27", node)
            if not docstring and set(re.findall(r"\w+", node.value)) & WORDS - {"type"}:
                self.say("L17", node)

    def judge_set(self, node):
        above = self.above[node]
        if isinstance(above, ast.Call) and getattr(above.func, "id", "") in ("sorted", "len"):
            return
        if isinstance(above, ast.Compare):
            return
        self.say("L24", node)

    def judge_call(self, node):
        name = getattr(node.func, "id", "")
        if name == "set":
            self.judge_set(node)
        if name in LAZY or getattr(node.func, "attr", "") in VIEWS:
            self.judge_lazy(node, name)
        if name == "isinstance":
            kinds = node.args[1].elts if isinstance(node.args[1], ast.Tuple) else [node.args[1]]
            if not all(isinstance(kind, ast.Name) for kind in kinds):
                self.say("L22", node)
        if name in ("any", "all", "sum", "min", "max", "sorted"):
            if any(isinstance(arg, ast.GeneratorExp) for arg in node.args):
                self.say("L7", node)
        if isinstance(node.func, ast.Constant) or getattr(node.func, "attr", "") == "sort":
            self.say("L25", node)
        for arg in node.args:
            if isinstance(arg, ast.Starred) and not isinstance(arg.value, (ast.Name, ast.Attribute)):
                self.say("L7", node)

    def judge_lazy(self, node, name):
        above = self.above[node]
        if isinstance(above, (ast.For, ast.comprehension)) and above.iter is node:
            return
        if isinstance(above, ast.Call) and getattr(above.func, "id", "") in TAKERS:
            return
        if name == "range":
            if isinstance(above, ast.Call) and getattr(above.func, "id", "") in ("len", "reversed"):
                return
            if isinstance(above, ast.Assign) and isinstance(above.targets[0], ast.Name):
                return
            if isinstance(above, ast.Compare) and above.comparators[-1] is node:
                return
        if name == "iter":
            return
        self.say("L23", node)

    def judge_function(self, node):
        if node.end_lineno - node.lineno + 1 > 40:
            self.say("L10", node)
        if node.returns or any(arg.annotation for arg in ast.walk(node) if isinstance(arg, ast.arg)):
            self.say("L21", node)
        if node.name.startswith("__") and node.name not in DUNDERS:
            self.say("L5", node)
        for decorator in node.decorator_list:
            known = getattr(decorator, "id", "") in ("property", "classmethod", "staticmethod")
            if not known and getattr(decorator, "attr", "") != "setter":
                self.say("L4", node)
        own = imported_names(self.tree) | {part.name for part in self.tree.body if isinstance(part, ast.ClassDef)}
        bound = {arg.arg for arg in ast.walk(node) if isinstance(arg, ast.arg)}
        bound |= {part.id for part in ast.walk(node) if isinstance(part, ast.Name) and isinstance(part.ctx, ast.Store)}
        bound |= {part.name for part in ast.walk(node) if isinstance(part, ast.FunctionDef) and part is not node}
        if bound & own or bound & set(dir(builtins)):
            self.say("L15", node)
        ends = [part for part in ast.walk(node) if isinstance(part, ast.Return) and part.value]
        if node.name == "__init__" and ends:
            self.say("L28", node)
        if node.name == "__len__" and not all(getattr(getattr(e.value, "func", 0), "id", "") == "len" for e in ends):
            self.say("L28", node)
        if generates(node) and ends:
            self.say("L23", node)

    def judge_class(self, node):
        if node.decorator_list or self.above[node] is not self.tree:
            self.say("L5", node)
        methods = [part.name for part in node.body if isinstance(part, ast.FunctionDef)]
        if len(set(methods)) != len(methods):
            self.say("L18", node)
        if set(methods) & attributes_of(node):
            self.say("L18", node)
        for name in set(methods) - DUNDERS:
            if name in BARRED or name in ("format", "format_map", "sort"):
                self.say("L26", node)


class Package:
    """What the files of the package define."""

    def __init__(self):
        self.defined = {}
        self.attributes = set()
        for path in sorted(PACKAGE.glob("*.py")):
            tree = ast.parse(path.read_text(encoding="utf-8"))
            self.defined[path.stem] = {name for node in tree.body for name in names_bound_by(node, imports=False)}
            for node in ast.walk(tree):
                if isinstance(node, ast.ClassDef):
                    self.attributes |= attributes_of(node)
                    self.attributes |= methods_of(node)
                    self.attributes |= class_values_of(node)


def names_bound_by(node, imports=True):
    if isinstance(node, (ast.FunctionDef, ast.ClassDef)):
        return [node.name]
    if isinstance(node, ast.Assign):
        return [target.id for target in node.targets]
    if isinstance(node, ast.ImportFrom) and imports:
        return [alias.name for alias in node.names]
    return []


def imported_names(tree):
    return {alias.name for node in tree.body if isinstance(node, ast.ImportFrom) for alias in node.names}


def attributes_of(node):
    found = set()
    for part in ast.walk(node):
        if isinstance(part, ast.Attribute) and isinstance(part.ctx, ast.Store):
            found.add(part.attr)
    return found


def methods_of(node):
    return {part.name for part in node.body if isinstance(part, ast.FunctionDef)}


def class_values_of(node):
    return {target.id for part in node.body if isinstance(part, ast.Assign) for target in part.targets}


def properties_of(node):
    found = set()
    for part in node.body:
        if isinstance(part, ast.FunctionDef):
            if any(getattr(decorator, "id", "") == "property" for decorator in part.decorator_list):
                found.add(part.name)
    return found


def all_classes():
    """The classes of the package."""
    trees = [ast.parse(path.read_text(encoding="utf-8")) for path in sorted(PACKAGE.glob("*.py"))]
    return [node for tree in trees for node in tree.body if isinstance(node, ast.ClassDef)]


def doubled_names():
    """Names of properties and class values that are also those of attributes or of other methods somewhere."""
    classes = all_classes()
    properties = set().union(*[properties_of(node) for node in classes])
    values = set().union(*[class_values_of(node) for node in classes])
    attributes = set().union(*[attributes_of(node) for node in classes])
    methods = set().union(*[methods_of(node) - properties_of(node) for node in classes])
    return sorted((properties | values) & (attributes | methods) | properties & values | attributes & methods)


def impure_properties():
    """Properties that do more than return what their object keeps, as far as their own rows tell."""
    found = []
    for node in all_classes():
        for part in node.body:
            if isinstance(part, ast.FunctionDef) and part.name in properties_of(node):
                if any(isinstance(row, (ast.Assign, ast.AugAssign, ast.For, ast.While)) for row in ast.walk(part)):
                    found.append(part.name)
    return found


def generates(node):
    return any(isinstance(part, (ast.Yield, ast.YieldFrom)) for part in ast.walk(node))


def imports_of(path):
    tree = ast.parse(path.read_text(encoding="utf-8"))
    modules = [node.module for node in tree.body if isinstance(node, ast.ImportFrom)]
    return {name.split(".", 1)[1] for name in modules if name.startswith("lotsayings.")}


def in_circles():
    """Files that import from each other, directly or through others."""
    further = {path.stem: imports_of(path) for path in PACKAGE.glob("*.py")}
    for _ in further:
        further = {name: goals.union(*[further[goal] for goal in goals]) for name, goals in further.items()}
    return sorted(name for name, goals in further.items() if name in goals)


def all_wrong():
    """All that is found wrong, as texts with the rule, the file and the line."""
    package = Package()
    wrong = []
    for path in sorted(PACKAGE.glob("*.py")):
        wrong.extend(Judge(path, package).judge())
    return wrong


def strange_files():
    """What stands in the folder of the package and is no file with a plain name."""
    found = [path.name for path in PACKAGE.iterdir() if path.name != "__pycache__"]
    return sorted(name for name in found if not re.fullmatch(r"(__init__|[a-z0-9_]+)\.py", name))
