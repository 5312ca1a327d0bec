"""Checks the package against those rules of ../shared/LANGUAGE.md that a look at the syntax tells."""

import ast
import builtins
import pathlib
import re
import sys

PACKAGE = "keptclauses"
BUILTINS = """len range enumerate zip min max sum abs sorted reversed int str bool bytes list tuple dict set frozenset
isinstance ord repr any all divmod super iter next Exception ValueError TypeError KeyError IndexError LookupError
ZeroDivisionError ArithmeticError OverflowError RuntimeError NotImplementedError NotImplemented property staticmethod
classmethod object""".split()
METHODS = """append clear copy count endswith extend find get index insert isalnum isalpha isdigit islower isspace isupper
items join keys ljust lower lstrip partition pop remove replace reverse rfind rjust rpartition rsplit rstrip setdefault
split splitlines startswith strip update upper values zfill bit_length title capitalize swapcase casefold center
removeprefix removesuffix rindex isascii isdecimal add discard __init__""".split()
DUNDERS = "__init__ __eq__ __repr__ __str__ __len__ __enter__ __exit__ __call__ __iter__".split()
WORDS = """type typing typing_extensions enum Enum IntEnum StrEnum Flag IntFlag Generic Protocol ABC ABCMeta namedtuple
NamedTuple TypedDict TYPE_CHECKING abstractmethod""".split()
NAMES = """register mro elements open input version_info attrgetter breakpoint builtins compile copyright credits delattr
dir eval exec exit gc getattr globals hasattr help id importlib license locals methodcaller os quit setattr type vars
sys""".split()
TAKE_LISTS = ("any", "all", "min", "max", "sum", "sorted")
BARRED = (ast.Global, ast.AsyncFunctionDef, ast.Await, ast.Import, ast.Div)


def file_faults(text):
    lines = text.split("\n")
    if len(lines) > 401:
        yield 1, "L10: more than 400 lines"
    for number, line in enumerate(lines, start=1):
        if len(line) > 120:
            yield number, "L10: a line of more than 120 characters"
        if re.search(r"[^ -~]", line):
            yield number, "L14: a character that can't stand there"
        if "%" in line and re.search(r"[\"'].*%.*[\"']", line):
            yield number, "L27: a percent sign in a string"
        for word in WORDS:
            if re.search(rf"\b{word}\b", line):
                yield number, f"L17: the word {word}"
        if re.search(r"dataclass|overload|contextmanager", line):
            yield number, "L17: a barred word"


def module_faults(tree):
    for node in tree.body:
        plain = isinstance(node, ast.Expr) and isinstance(node.value, ast.Constant)
        if not plain and not isinstance(node, (ast.ImportFrom, ast.FunctionDef, ast.ClassDef, ast.Assign)):
            yield node.lineno, "L3: can't stand at module level"


def import_faults(tree, defined):
    for node in ast.walk(tree):
        if isinstance(node, ast.ImportFrom):
            if node.level or not node.module.startswith(PACKAGE + "."):
                yield node.lineno, "L2: an import from elsewhere"
                continue
            for name in node.names:
                if name.asname or name.name not in defined[node.module.split(".")[1]]:
                    yield node.lineno, f"L16: {name.name} is not defined there"


def bound_names(tree):
    """The names that functions bind, and where."""
    for node in ast.walk(tree):
        if isinstance(node, ast.arg):
            yield node.lineno, node.arg
        elif isinstance(node, ast.Name) and isinstance(node.ctx, ast.Store):
            yield node.lineno, node.id
        elif isinstance(node, (ast.FunctionDef, ast.ClassDef)):
            yield node.lineno, node.name


def name_faults(tree):
    methods = {one for node in ast.walk(tree) if isinstance(node, ast.ClassDef) for one in node.body}
    taken = {name.name for node in ast.walk(tree) if isinstance(node, ast.ImportFrom) for name in node.names}
    taken |= {node.name for node in tree.body if isinstance(node, ast.ClassDef)}
    own = {(node.lineno, node.name) for node in methods if isinstance(node, ast.FunctionDef)}
    own |= {(node.lineno, node.name) for node in tree.body if isinstance(node, ast.ClassDef)}
    for number, name in bound_names(tree):
        if name.startswith("_") and name not in DUNDERS:
            yield number, f"L12: the name {name}"
        if name in NAMES:
            yield number, f"L17: the name {name}"
        if (number, name) not in own and (name in taken or hasattr(builtins, name)):
            yield number, f"L15: the name {name} means something else"


def node_faults(tree, own_methods):
    for node in ast.walk(tree):
        if isinstance(node, BARRED) or isinstance(node, ast.Constant) and isinstance(node.value, float):
            yield getattr(node, "lineno", 0), f"L6, L7: {node.__class__.__name__}"
        if isinstance(node, ast.FunctionDef) and node.end_lineno - node.lineno >= 40:
            yield node.lineno, "L10: more than 40 lines"
        if isinstance(node, ast.Name) and hasattr(builtins, node.id) and node.id not in BUILTINS:
            yield node.lineno, f"L8: the builtin {node.id}"
        if isinstance(node, ast.Call):
            yield from call_faults(node, own_methods)
        if isinstance(node, ast.Compare) and any(isinstance(op, (ast.Is, ast.IsNot)) for op in node.ops):
            if not isinstance(node.comparators[0], ast.Constant):
                yield node.lineno, "L20: is"


def call_faults(node, own_methods):
    if isinstance(node.func, ast.Name) and node.func.id in TAKE_LISTS:
        if any(isinstance(one, ast.GeneratorExp) for one in node.args):
            yield node.lineno, f"L7: {node.func.id} of a generator expression"
    if isinstance(node.func, ast.Attribute) and node.func.attr not in [*METHODS, *own_methods]:
        yield node.lineno, f"L25: the method {node.func.attr}"


def top_names(tree):
    for node in tree.body:
        if isinstance(node, (ast.FunctionDef, ast.ClassDef)):
            yield node.name
        elif isinstance(node, ast.Assign):
            yield from [target.id for target in node.targets]


def main():
    paths = sorted(pathlib.Path(PACKAGE).glob("*.py"))
    trees = {path.stem: ast.parse(path.read_text()) for path in paths}
    defined = {name: set(top_names(tree)) for name, tree in trees.items()}
    nodes = [node for tree in trees.values() for node in ast.walk(tree)]
    classes = [node for node in nodes if isinstance(node, ast.ClassDef)]
    own_methods = {one.name for node in classes for one in node.body if isinstance(one, ast.FunctionDef)}
    stored = {node.attr for node in nodes if isinstance(node, ast.Attribute) and isinstance(node.ctx, ast.Store)}
    faults = [(PACKAGE, 0, f"L18: {name} is a method and an attribute") for name in sorted(own_methods & stored)]
    for path in paths:
        tree = trees[path.stem]
        told = [*file_faults(path.read_text()), *module_faults(tree), *import_faults(tree, defined)]
        told += [*name_faults(tree), *node_faults(tree, own_methods)]
        faults += [(path, number, words) for number, words in told]
    for path, number, words in faults:
        print(f"{path}:{number}: {words}")
    sys.exit(1 if faults else 0)


if __name__ == "__main__":
    main()
