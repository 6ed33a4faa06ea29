"""Looks at the form of a package's files: those rules of LANGUAGE.md that can be seen without running anything.

Not each rule is looked at; what is told here is wrong, but what is not told may be wrong all the same.
"""

import ast
import builtins
import os
import re
import sys

OWN_NAMES = set("""len range enumerate zip min max sum abs sorted reversed int str bool list tuple dict set frozenset
isinstance ord repr any all divmod object float bytes Exception ValueError TypeError KeyError IndexError LookupError
ZeroDivisionError ArithmeticError OverflowError RuntimeError NotImplementedError AttributeError StopIteration
""".split())
METHODS = set("""append clear copy count endswith extend find get index insert isalnum isalpha isdigit islower isspace
isupper items join keys ljust lower lstrip partition pop remove replace reverse rfind rjust rpartition rsplit rstrip
setdefault split splitlines startswith strip update upper values zfill bit_length add discard title""".split())
NO_NAMES = set("""register mro elements open input version_info with_traceback add_note attrgetter breakpoint builtins
compile copyright credits delattr dir eval exec exit gc getattr globals hasattr help id importlib license locals
methodcaller os quit setattr super type vars sys""".split())
NO_WORDS = re.compile(r"\b(type|typing|typing_extensions|enum|Enum|IntEnum|StrEnum|Flag|IntFlag|Generic|Protocol|ABC"
                      r"|ABCMeta|namedtuple|NamedTuple|TypedDict|TYPE_CHECKING|abstractmethod)\b"
                      r"|dataclass|overload|contextmanager")
NO_NODES = (ast.With, ast.Match, ast.Delete, ast.Global, ast.Nonlocal, ast.Assert, ast.Yield, ast.YieldFrom,
            ast.AsyncFunctionDef, ast.AsyncFor, ast.AsyncWith, ast.Await, ast.SetComp, ast.DictComp, ast.GeneratorExp,
            ast.NamedExpr, ast.Starred, ast.Import, ast.TryStar, ast.Div, ast.MatMult)
TWO_UNDERSCORES = ("__init__", "__eq__", "__repr__", "__str__", "__len__", "__all__", "__version__", "__name__")
VALUES = (str, int, list, dict, set, tuple, bytes)


def look_at_signs(text):
    rows = text.split("\n")
    if len(rows) - 1 > 400:
        yield 1, "L10", "more than 400 lines"
    for number, row in enumerate(rows, start=1):
        if len(row) > 120:
            yield number, "L10", "more than 120 signs"
        if any([not " " <= sign <= "~" for sign in row]):
            yield number, "L14", "a strange sign"
        if NO_WORDS.search(row):
            yield number, "L17", "a word that stands nowhere"


def look_at_top(tree, package):
    for place, node in enumerate(tree.body):
        docstring = place == 0 and isinstance(node, ast.Expr) and isinstance(node.value, ast.Constant)
        plain = isinstance(node, (ast.FunctionDef, ast.ClassDef, ast.Assign, ast.ImportFrom))
        if not plain and not docstring:
            yield node.lineno, "L3", "something else at the top of a file"
    inner = [node for node in ast.walk(tree) if isinstance(node, ast.ImportFrom) and node not in tree.body]
    for node in inner:
        yield node.lineno, "L2", "an import that is not at the top"
    for node in ast.walk(tree):
        if isinstance(node, ast.ImportFrom) and node.module != "__future__":
            own = node.level == 0 and node.module.startswith(package + ".")
            if not own or any([name.name == "*" for name in node.names]):
                yield node.lineno, "L2", "an import from elsewhere"


def look_at_form(node):
    if isinstance(node, NO_NODES):
        yield "L6/L7", "a form that is not used"
    if isinstance(node, (ast.For, ast.While)) and node.orelse:
        yield "L6", "an else behind a loop"
    if isinstance(node, ast.Try) and node.finalbody:
        yield "L6", "finally"
    if isinstance(node, ast.Assign) and len(node.targets) > 1:
        yield "L6", "several targets"
    if isinstance(node, ast.ListComp) and (len(node.generators) > 1 or len(node.generators[0].ifs) > 1):
        yield "L7", "a comprehension of several parts"
    if isinstance(node, ast.Constant) and isinstance(node.value, (float, bytes, complex)):
        yield "L7", "a value that is not used"
    if isinstance(node, ast.Constant) and isinstance(node.value, str) and "%" in node.value:
        yield "L27", "a per cent sign within a text"
    if isinstance(node, ast.Compare) and any([isinstance(sign, (ast.Is, ast.IsNot)) for sign in node.ops]):
        sides = [node.left] + node.comparators
        if not any([isinstance(side, ast.Constant) and side.value in (None, True, False) for side in sides]):
            yield "L20", "is beside something else"


def look_at_defs(node):
    if isinstance(node, (ast.FunctionDef, ast.ClassDef)) and node.decorator_list:
        yield "L4/L5", "a decorator"
    if isinstance(node, ast.ClassDef) and (len(node.bases) > 1 or node.keywords):
        yield "L5", "more than one base"
    if isinstance(node, ast.FunctionDef) and node.end_lineno - node.lineno + 1 > 40:
        yield "L10", "a function of more than 40 lines"
    if isinstance(node, ast.arguments) and (node.vararg or node.kwarg or node.kwonlyargs or node.posonlyargs):
        yield "L4", "parameters that are not plain"


def names_of(node):
    found = [getattr(node, field, None) for field in ("id", "attr", "arg", "name", "asname")]
    return [name for name in found if isinstance(name, str)]


def look_at_names(node, own_methods):
    for name in names_of(node):
        if name in NO_NAMES:
            yield "L17", "the name " + name
        if name.startswith("_") and name not in TWO_UNDERSCORES:
            yield "L12", "the name " + name
    if isinstance(node, ast.Name) and hasattr(builtins, node.id):
        if node.id not in OWN_NAMES or not isinstance(node.ctx, ast.Load):
            yield "L8/L15", "the name " + node.id
    if isinstance(node, ast.arg) and hasattr(builtins, node.arg):
        yield "L15", "the name " + node.arg
    if isinstance(node, ast.Attribute) and node.attr not in METHODS | own_methods:
        if any([hasattr(value, node.attr) for value in VALUES]):
            yield "L25", "the method " + node.attr


def look_at_file(path, package):
    with open(path, encoding="utf-8") as file:
        text = file.read()
    tree = ast.parse(text)
    yield from look_at_signs(text)
    yield from look_at_top(tree, package)
    own_methods = {node.name for node in ast.walk(tree) if isinstance(node, ast.FunctionDef)} | set(TWO_UNDERSCORES)
    for node in ast.walk(tree):
        for rule, words in [*look_at_form(node), *look_at_defs(node), *look_at_names(node, own_methods)]:
            yield getattr(node, "lineno", 1), rule, words


def look_at_package(folder):
    package = os.path.basename(os.path.normpath(folder))
    names = sorted([name for name in os.listdir(folder) if name != "__pycache__"])
    if "__init__.py" not in names:
        yield folder, 1, "L14", "there is no __init__.py"
    for name in names:
        path = os.path.join(folder, name)
        if not re.fullmatch(r"[a-z0-9_]+\.py", name):
            yield path, 1, "L1/L14", "something else in the folder"
        else:
            for number, rule, words in look_at_file(path, package):
                yield path, number, rule, words


def main():
    found = list(look_at_package(sys.argv[1]))
    for path, number, rule, words in found:
        print(f"{path}:{number}: {rule}: {words}")
    sys.exit(1 if found else 0)


if __name__ == "__main__":
    main()
