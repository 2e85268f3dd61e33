"""Looks at the files of a package by the rules L1 to L28, as far as a script can see them.

Where a rule lets several readings by, this keeps to the narrowest one. What no script of this
size can see (what a set's order decides, how deep a recursion goes) is left to the reader.
"""

import ast
import builtins
import io
import re
import tokenize

PACKAGE = "worldsay"
BUILTINS = frozenset(dir(builtins))
ERRORS = frozenset((
    "Exception ValueError TypeError KeyError IndexError LookupError ZeroDivisionError ArithmeticError "
    "OverflowError RuntimeError NotImplementedError AttributeError StopIteration").split())
KINDS = frozenset("int str bool list tuple dict".split())
FUNCTIONS = frozenset((
    "len range enumerate zip min max sum abs sorted reversed int str bool list tuple dict set frozenset "
    "isinstance ord repr any all divmod").split())
METHODS = frozenset((
    "append clear copy count endswith extend find get index insert isalnum isalpha isdigit islower isspace "
    "isupper items join keys ljust lower lstrip partition pop remove replace reverse rfind rjust rpartition "
    "rsplit rstrip setdefault split splitlines startswith strip update upper values zfill bit_length").split())
CHANGES = frozenset("append clear extend insert pop remove reverse setdefault update".split())
OWN_VALUES = frozenset("count index title find get join lower upper split strip copy add".split())
BARRED_VALUES = frozenset((
    "items keys values pop update append clear extend insert remove reverse setdefault sort args encode "
    "format").split())
OF_PYTHON = frozenset(
    name for kind in (str, int, list, dict, set, bytes, tuple) for name in dir(kind) if not name.startswith("__"))
UNDER_METHODS = frozenset("__init__ __eq__ __repr__ __str__ __len__".split())
UNDER_NAMES = frozenset("__all__ __version__ __name__".split())
NOWHERE = frozenset("register mro elements open input version_info with_traceback add_note".split())
FRAMES = re.compile(r"(f|tb|co|gi|cr|ag)_\w+")
NOT_NAMES = frozenset((
    "attrgetter breakpoint builtins compile copyright credits delattr dir eval exec exit gc getattr globals "
    "hasattr help id importlib license locals methodcaller os quit setattr super type vars").split())
WORDS = ("type typing typing_extensions enum Enum IntEnum StrEnum Flag IntFlag Generic Protocol ABC ABCMeta "
         "namedtuple NamedTuple TypedDict TYPE_CHECKING abstractmethod").split()
WITHIN = "dataclass overload contextmanager".split()
BAD_FILES = frozenset("test tests testing site conftest sitecustomize usercustomize".split()) | frozenset(WORDS)
KEYWORDS = {"sorted": ("key", "reverse"), "min": ("key", "default"), "max": ("key", "default"),
            "sum": ("start",), "enumerate": ("start",), "zip": ("strict",)}
AS_KEY = frozenset("len int str abs sum min max tuple".split())
WALKED = frozenset("zip enumerate reversed range".split())
WALKERS = frozenset("list tuple dict sorted sum any all enumerate zip".split())
READERS = WALKERS | frozenset("len min max set reversed".split())
STATEMENTS = (ast.Assign, ast.AugAssign, ast.If, ast.While, ast.For, ast.Return, ast.Break, ast.Continue,
              ast.Pass, ast.Raise, ast.Try, ast.Expr, ast.FunctionDef, ast.ClassDef, ast.Import, ast.ImportFrom)
EXPRESSIONS = (ast.Constant, ast.Name, ast.List, ast.Tuple, ast.Dict, ast.Set, ast.BinOp, ast.UnaryOp,
               ast.BoolOp, ast.Compare, ast.IfExp, ast.Call, ast.Attribute, ast.Subscript, ast.Slice,
               ast.ListComp, ast.JoinedStr, ast.FormattedValue, ast.Lambda)


class Source:
    """One file: its text, its tree, and for each node the one right round it."""

    def __init__(self, name, text):
        self.name = name
        self.stem = name[:-len(".py")]
        self.text = text
        self.tree = ast.parse(text)
        self.nodes = list(ast.walk(self.tree))
        self.above = {}
        for node in self.nodes:
            for child in ast.iter_child_nodes(node):
                self.above[child] = node
        self.functions = [node for node in self.nodes if isinstance(node, ast.FunctionDef)]
        self.classes = [node for node in self.nodes if isinstance(node, ast.ClassDef)]
        self.imports = [node for node in self.nodes if isinstance(node, (ast.Import, ast.ImportFrom))]
        self.is_main = self.stem == "__main__"

    def of(self, *kinds):
        return [node for node in self.nodes if isinstance(node, kinds)]


class Package:
    """All files of a package, by their texts."""

    def __init__(self, texts):
        self.sources = {name[:-len(".py")]: Source(name, text) for name, text in texts.items()}
        self.class_names = set()
        self.methods = set()
        self.values = set()
        for source in self.sources.values():
            for node in source.classes:
                self.class_names.add(node.name)
                self.methods.update(row.name for row in node.body if isinstance(row, ast.FunctionDef))
            for node in source.of(ast.Attribute):
                if isinstance(node.ctx, ast.Store):
                    self.values.add(node.attr)


def faults_of(texts):
    """The faults of a package, its files' texts by their names: tuples (rule, file, line, words)."""
    found = []
    for name in texts:
        found.extend(name_faults(name))
    for name, text in texts.items():
        found.extend(text_faults(name, text))
    if found:
        return sorted(found)
    package = Package(texts)
    looks = (import_faults, top_faults, statement_faults, expression_faults, identifier_faults,
             function_faults, class_faults, own_name_faults, shadow_faults, top_value_faults, class_use_faults,
             builtin_faults, walk_faults, loop_faults, set_faults, method_faults, error_faults, under_faults,
             unused_faults)
    for source in package.sources.values():
        for look in looks:
            found.extend((rule, source.name, getattr(node, "lineno", 1), words)
                         for rule, node, words in look(source, package))
    found.extend(ring_faults(package))
    return sorted(set(found))


def name_faults(name):
    if not re.fullmatch(r"(__init__|__main__|[a-z][a-z0-9_]*)\.py", name):
        yield ("L1", name, 1, "a file's name")
    stem = name.split(".")[0]
    if stem in BAD_FILES or stem in BUILTINS or stem.startswith("test_"):
        yield ("L14", name, 1, "a file's name")


def text_faults(name, text):
    rows = text.split("\n")
    if len(rows) > 401 or (len(rows) == 401 and rows[-1]):
        yield ("L10", name, 401, "a file of more than 400 lines")
    for number, row in enumerate(rows, 1):
        if len(row) > 120:
            yield ("L10", name, number, "a line of more than 120 signs")
        if "\t" in row:
            yield ("L10", name, number, "a tab")
        if not re.fullmatch(r"[ -~\t]*", row):
            yield ("L14", name, number, "a sign")
        for word in WORDS:
            if re.search(rf"\b{word}\b", row):
                yield ("L17", name, number, word)
        for word in WITHIN:
            if word in row:
                yield ("L17", name, number, word)
    yield from token_faults(name, text)


def token_faults(name, text):
    for token in tokenize.generate_tokens(io.StringIO(text).readline):
        kind = tokenize.tok_name[token.type]
        if kind in ("STRING", "FSTRING_START", "FSTRING_MIDDLE"):
            opened = re.match(r"[A-Za-z]*", token.string).group() if kind != "FSTRING_MIDDLE" else ""
            # A b ahead is L7's affair: bytes are no texts.
            if opened not in ("", "f", "b"):
                yield ("L27", name, token.start[0], "a text's letters ahead")
            if re.search(r"\\[^nt\\'\"]", token.string.replace("\\\\", "")):
                yield ("L27", name, token.start[0], "an escape")
        if kind == "NUMBER" and len(token.string) > 900:
            yield ("L27", name, token.start[0], "a number of more than 900 digits")


def bound_at_top(source):
    """The names that a file's top binds itself, each with its row."""
    bound = []
    for row in source.tree.body:
        if isinstance(row, (ast.FunctionDef, ast.ClassDef)):
            bound.append((row.name, row))
        if isinstance(row, ast.Assign):
            bound.extend((target.id, row) for target in row.targets if isinstance(target, ast.Name))
    return bound


def imported(source):
    return [(alias.asname or alias.name, node) for node in source.imports for alias in node.names]


def import_faults(source, package):
    for node in source.imports:
        if not isinstance(source.above[node], ast.Module):
            yield ("L2", node, "an import that is not at the top")
        if isinstance(node, ast.Import):
            if not source.is_main or [(alias.name, alias.asname) for alias in node.names] != [("sys", None)]:
                yield ("L16", node, "an import without from")
        elif node.module == "__future__":
            if [alias.name for alias in node.names] != ["annotations"]:
                yield ("L2", node, "an import from __future__")
        else:
            yield from drawn_faults(node, package)
    rows = [row for row in source.tree.body if not is_docstring(row, source)]
    kinds = [isinstance(row, (ast.Import, ast.ImportFrom)) for row in rows]
    if kinds != sorted(kinds, reverse=True):
        yield ("L2", source.tree, "an import behind other rows")


def drawn_faults(node, package):
    folder, dot, stem = (node.module or "").partition(".")
    if node.level or folder != PACKAGE or stem not in package.sources or stem == "__main__":
        yield ("L2", node, "an import from elsewhere")
        return
    defined = [name for name, row in bound_at_top(package.sources[stem])]
    for alias in node.names:
        if alias.name not in defined:
            yield ("L16", node, "a name that its file doesn't define")


def drawn_from(source, package):
    stems = ["__init__"] if source.stem != "__init__" else []
    for node in source.imports:
        if isinstance(node, ast.ImportFrom):
            stems.append((node.module or "").partition(".")[2])
    return [stem for stem in stems if stem in package.sources]


def ring_faults(package):
    for source in package.sources.values():
        if source.stem == "__init__" and not source.imports:
            continue
        seen, waiting = set(), drawn_from(source, package)
        while waiting:
            stem = waiting.pop()
            if stem not in seen:
                seen.add(stem)
                waiting.extend(drawn_from(package.sources[stem], package))
        if source.stem in seen:
            yield ("L16", source.name, 1, "files that draw from one another")
    own = package.sources.get("__init__")
    if own and {name for name, row in bound_at_top(own) + imported(own)} & set(package.sources):
        yield ("L16", own.name, 1, "a name that a file has")


def is_docstring(node, source):
    if not isinstance(node, ast.Expr) or not isinstance(node.value, ast.Constant):
        return False
    above = source.above[node]
    return (isinstance(node.value.value, str) and isinstance(above, (ast.Module, ast.FunctionDef, ast.ClassDef))
            and above.body[0] is node)


def is_plain_value(node, functions):
    if isinstance(node, ast.Constant):
        return node.value is None or isinstance(node.value, (int, str))
    if isinstance(node, ast.UnaryOp):
        return isinstance(node.op, ast.USub) and is_plain_value(node.operand, ())
    if isinstance(node, (ast.List, ast.Tuple)):
        return all(is_plain_value(item, functions) for item in node.elts)
    if isinstance(node, ast.Dict):
        return all(item is not None and is_plain_value(item, functions) for item in node.keys + node.values)
    return isinstance(node, ast.Name) and node.id in functions


def top_faults(source, package):
    functions = []
    for row in source.tree.body:
        if isinstance(row, ast.FunctionDef):
            functions.append(row.name)
        elif isinstance(row, ast.Assign):
            if not isinstance(row.targets[0], ast.Name) or not is_plain_value(row.value, functions):
                yield ("L3", row, "a value at the top")
            elif isinstance(row.value, ast.Name):
                yield ("L3", row, "a name for a name")
            if isinstance(row.value, (ast.List, ast.Dict)):
                inner = [node for node in ast.walk(row.value) if isinstance(node, (ast.List, ast.Dict))]
                if len(inner) > 1:
                    yield ("L15", row, "a list or dict within one of the top")
        elif not isinstance(row, (ast.ClassDef, ast.Import, ast.ImportFrom)) and not is_docstring(row, source):
            if not (source.is_main and row is source.tree.body[-1] and is_main_row(row)):
                yield ("L3", row, "a row at the top")
    names = [name for name, row in bound_at_top(source) + imported(source)]
    for name, row in bound_at_top(source):
        if names.count(name) > 1:
            yield ("L15", row, "a name bound twice")


def is_main_row(row):
    return isinstance(row, ast.If) and not row.orelse and ast.unparse(row.test) == "__name__ == '__main__'"


def statement_faults(source, package):
    for node in source.of(ast.stmt):
        if not isinstance(node, STATEMENTS):
            yield ("L6", node, "a kind of statement")
        if isinstance(node, ast.Assign):
            if len(node.targets) != 1 or isinstance(node.targets[0], (ast.Tuple, ast.List)):
                yield ("L6", node, "more than one target")
        if isinstance(node, (ast.For, ast.While)) and node.orelse:
            yield ("L6", node, "an else behind a loop")
        if isinstance(node, ast.Try) and node.finalbody:
            yield ("L6", node, "finally")
        if isinstance(node, ast.Expr) and not isinstance(node.value, ast.Call) and not is_docstring(node, source):
            yield ("L6", node, "a value by itself")
        if isinstance(node, ast.ClassDef) and not isinstance(source.above[node], ast.Module):
            yield ("L15", node, "a class that is not at the top")


def expression_faults(source, package):
    for node in source.of(ast.expr):
        if not isinstance(node, EXPRESSIONS):
            yield ("L7", node, "a kind of expression")
        if isinstance(node, ast.Constant):
            if node.value is not None and not isinstance(node.value, (int, str)):
                yield ("L7", node, "a kind of value")
            if isinstance(node.value, str) and "%" in node.value:
                yield ("L27", node, "a per cent sign")
        if isinstance(node, ast.ListComp):
            if len(node.generators) != 1 or len(node.generators[0].ifs) > 1 or node.generators[0].is_async:
                yield ("L7", node, "a comprehension of several")
        if isinstance(node, ast.Dict) and None in node.keys:
            yield ("L7", node, "a star")
        if isinstance(node, ast.FormattedValue):
            if not isinstance(node.value, ast.Name) or node.conversion not in (-1, 114) or node.format_spec:
                yield ("L7", node, "more than a name in braces")
        if isinstance(node, ast.Compare):
            yield from is_faults(node)
        if isinstance(node, ast.Set):
            yield from set_display_faults(node, source)
    for node in source.of(ast.BinOp, ast.AugAssign):
        if isinstance(node.op, (ast.Div, ast.MatMult)):
            yield ("L7", node, "a kind of reckoning")
        if isinstance(node.op, ast.Pow):
            power = node.right if isinstance(node, ast.BinOp) else node.value
            if not (isinstance(power, ast.Constant) and isinstance(power.value, int) and 0 <= power.value <= 64):
                yield ("L27", node, "an exponent")
    lambdas = [(node.lineno, ast.dump(node.args)) for node in source.of(ast.Lambda)]
    for node in source.of(ast.Lambda):
        if lambdas.count((node.lineno, ast.dump(node.args))) > 1:
            yield ("L13", node, "two lambdas on a line")


def is_faults(node):
    sides = [node.left] + node.comparators
    for place, operator in enumerate(node.ops):
        if isinstance(operator, (ast.Is, ast.IsNot)):
            if not any(isinstance(side, ast.Constant) and (side.value is None or isinstance(side.value, bool))
                       for side in sides[place:place + 2]):
                yield ("L20", node, "is")


def set_display_faults(node, source):
    above = source.above[node]
    asked = (isinstance(above, ast.Compare) and node in above.comparators
             and all(isinstance(operator, (ast.In, ast.NotIn)) for operator in above.ops))
    whole = [item for item in node.elts if isinstance(item, ast.Constant) and isinstance(item.value, int)]
    if len(whole) >= 3 and not asked:
        yield ("L13", node, "a set of whole numbers")
    if not asked:
        yield ("L24", node, "a set that is kept")
    while not isinstance(above, (ast.FunctionDef, ast.Module)):
        above = source.above[above]
    if isinstance(above, ast.Module):
        yield ("L7", node, "a set outside a function")


def identifiers(source):
    """All names of a file, of whatever sort, with their nodes and whether they are attributes."""
    for node in source.nodes:
        if isinstance(node, ast.Name):
            yield (node.id, node, False)
        elif isinstance(node, ast.Attribute):
            yield (node.attr, node, True)
        elif isinstance(node, ast.arg):
            yield (node.arg, node, False)
        elif isinstance(node, ast.FunctionDef):
            yield (node.name, node, isinstance(source.above[node], ast.ClassDef))
        elif isinstance(node, ast.ClassDef):
            yield (node.name, node, False)
        elif isinstance(node, ast.ExceptHandler) and node.name:
            yield (node.name, node, False)
        elif isinstance(node, (ast.Import, ast.ImportFrom)) and getattr(node, "module", "") != "__future__":
            for alias in node.names:
                yield (alias.name, node, False)
                yield (alias.asname or alias.name, node, False)


def identifier_faults(source, package):
    for name, node, inner in identifiers(source):
        if name in UNDER_METHODS and inner:
            continue
        if name in UNDER_NAMES:
            if name == "__name__" and not source.is_main and not inner:
                yield ("L17", node, name)
            continue
        if name == "*":
            yield ("L2", node, "a star")
        elif name.startswith("__"):
            yield ("L8", node, name)
        elif not re.fullmatch(r"[A-Za-z][A-Za-z0-9_]*", name):
            yield ("L12", node, name)
        if name in NOWHERE or FRAMES.fullmatch(name):
            yield ("L17", node, name)
        if not inner and (name in NOT_NAMES or (name == "sys" and not source.is_main)):
            yield ("L17", node, name)
        if inner and name in ("format", "format_map"):
            yield ("L8", node, name)
    for node in source.of(ast.Name):
        if node.id in BUILTINS and node.id not in FUNCTIONS | ERRORS | UNDER_NAMES:
            if not (node.id == "print" and source.is_main):
                yield ("L8", node, node.id)


def function_faults(source, package):
    for node in source.of(ast.FunctionDef, ast.Lambda):
        args = node.args
        if args.vararg or args.kwarg or args.kwonlyargs or args.posonlyargs:
            yield ("L4", node, "parameters that are not plain")
        if not all(is_plain_value(value, ()) for value in args.defaults):
            yield ("L4", node, "a default")
    for node in source.functions:
        if node.decorator_list:
            yield ("L4", node, "a decorator")
        if node.end_lineno - node.lineno + 1 > 40:
            yield ("L10", node, "a function of more than 40 lines")
        if node.returns or any(arg.annotation for arg in node.args.args):
            yield ("L21", node, "an annotation")


def class_faults(source, package):
    for node in source.classes:
        if node.decorator_list or node.keywords or len(node.bases) > 1:
            yield ("L5", node, "a class that is not plain")
        for base in node.bases:
            if not isinstance(base, ast.Name) or base.id not in package.class_names | ERRORS:
                yield ("L5", node, "a base")
            elif base.id in ("StopIteration", "AttributeError"):
                yield ("L18", node, "a base")
        for row in node.body:
            if not isinstance(row, (ast.FunctionDef, ast.Pass)) and not is_docstring(row, source):
                yield ("L5", row, "a row of a class")
        names = [row.name for row in node.body if isinstance(row, ast.FunctionDef)]
        if len(names) != len(set(names)):
            yield ("L18", node, "a method that stands twice")


def own_name_faults(source, package):
    for node in source.classes:
        for row in node.body:
            if isinstance(row, ast.FunctionDef) and row.name not in UNDER_METHODS:
                if row.name in OF_PYTHON and row.name not in METHODS | {"add", "discard"}:
                    yield ("L26", row, row.name)
                if row.name in package.values:
                    yield ("L18", row, row.name)
    tops = {name for name, row in bound_at_top(source) + imported(source)}
    for node in source.of(ast.Attribute):
        if isinstance(node.ctx, ast.Store):
            if node.attr in BARRED_VALUES or (node.attr in OF_PYTHON and node.attr not in OWN_VALUES):
                yield ("L26", node, node.attr)
            if not isinstance(node.value, ast.Name) or node.value.id in tops:
                yield ("L18", node, "a value that is not given through a local name")


def bound_inside(source):
    """The names that parameters and locals have, with their nodes."""
    for function in source.of(ast.FunctionDef, ast.Lambda):
        for node in ast.walk(function):
            if isinstance(node, ast.arg):
                yield (node.arg, node)
            if isinstance(node, ast.Name) and isinstance(node.ctx, ast.Store):
                yield (node.id, node)
            if isinstance(node, ast.FunctionDef) and node is not function:
                yield (node.name, node)
            if isinstance(node, ast.ExceptHandler) and node.name:
                yield (node.name, node)


def shadow_faults(source, package):
    taken = {name for name, node in imported(source)} | {node.name for node in source.classes} | BUILTINS
    for name, node in bound_inside(source):
        if name in taken:
            yield ("L15", node, name)
    for name, row in bound_at_top(source):
        if name in BUILTINS and name not in UNDER_NAMES:
            yield ("L8", row, name)


def containers(source, package):
    """The names by which a file has lists and dicts of a file's top, its own or another one's."""
    names = own_containers(source)
    for node in source.imports:
        stem = (getattr(node, "module", "") or "").partition(".")[2]
        if stem in package.sources:
            names |= {alias.name for alias in node.names} & own_containers(package.sources[stem])
    return names


def own_containers(source):
    return {name for name, row in bound_at_top(source)
            if isinstance(row, ast.Assign) and isinstance(row.value, (ast.List, ast.Dict))}


def top_value_faults(source, package):
    names = containers(source, package)
    for node in source.of(ast.Name):
        if node.id in names and isinstance(node.ctx, ast.Load) and not is_only_read(node, source):
            yield ("L15", node, "a list or dict of the top, not only read")


def is_only_read(node, source):
    above = source.above[node]
    if isinstance(above, ast.Subscript):
        return above.value is node and isinstance(above.ctx, ast.Load)
    if isinstance(above, (ast.For, ast.comprehension)):
        return above.iter is node
    if isinstance(above, ast.Call):
        return isinstance(above.func, ast.Name) and above.func.id in READERS
    if isinstance(above, ast.Attribute):
        return above.attr in ("get", "items", "keys", "values", "index", "count", "copy")
    return isinstance(above, ast.Compare)


def class_use_faults(source, package):
    for node in source.of(ast.Name):
        if node.id in package.class_names | ERRORS and not is_class_use(node, source):
            yield ("L18", node, node.id)


def is_class_use(node, source):
    above = source.above[node]
    if isinstance(above, ast.Tuple):
        node, above = above, source.above[above]
    if isinstance(above, ast.Call):
        asked = isinstance(above.func, ast.Name) and above.func.id == "isinstance" and node in above.args[1:]
        return above.func is node or asked
    if isinstance(above, ast.Attribute):
        return above.attr == "__init__" and isinstance(source.above[above], ast.Call)
    return isinstance(above, (ast.ClassDef, ast.ExceptHandler))


def builtin_faults(source, package):
    for node in source.of(ast.Name):
        if node.id in FUNCTIONS and not is_builtin_use(node, source):
            yield ("L22", node, node.id)
    for node in source.of(ast.Call):
        if isinstance(node.func, ast.Name) and node.func.id in FUNCTIONS | ERRORS:
            for keyword in node.keywords:
                if keyword.arg not in KEYWORDS.get(node.func.id, ()):
                    yield ("L22", node, "a keyword")
                elif keyword.arg in ("reverse", "strict") and not is_truth(keyword.value):
                    yield ("L22", node, "a truth that is not written")
        if isinstance(node.func, ast.Attribute) and node.func.attr in METHODS and node.keywords:
            yield ("L22", node, "a keyword")
        if isinstance(node.func, ast.Name) and node.func.id == "isinstance":
            if len(node.args) != 2 or not is_asked_kind(node.args[1], package):
                yield ("L22", node, "isinstance")


def is_truth(node):
    return isinstance(node, ast.Constant) and isinstance(node.value, bool)


def is_asked_kind(node, package):
    if isinstance(node, ast.Tuple):
        return all(isinstance(item, ast.Name) and is_asked_kind(item, package) for item in node.elts)
    return isinstance(node, ast.Name) and node.id in KINDS | ERRORS | package.class_names


def is_builtin_use(node, source):
    above = source.above[node]
    if isinstance(above, ast.keyword):
        return above.arg == "key" and node.id in AS_KEY
    if isinstance(above, ast.Tuple):
        node, above = above, source.above[above]
    if isinstance(above, ast.Call):
        asked = isinstance(above.func, ast.Name) and above.func.id == "isinstance" and node in above.args[1:]
        return above.func is node or asked
    return False


def is_walked_call(node):
    if isinstance(node.func, ast.Name):
        return node.func.id in WALKED
    return isinstance(node.func, ast.Attribute) and node.func.attr in ("items", "keys", "values")


def walk_faults(source, package):
    for node in source.of(ast.Call):
        if is_walked_call(node) and not is_walked_at_once(node, source):
            yield ("L23", node, "not walked on the spot")


def is_walked_at_once(node, source):
    above = source.above[node]
    if isinstance(above, (ast.For, ast.comprehension)):
        return above.iter is node
    if not isinstance(above, ast.Call) or not above.args or above.args[0] is not node:
        return False
    if isinstance(above.func, ast.Name):
        return above.func.id in WALKERS or (above.func.id in ("min", "max") and len(above.args) == 1)
    return (isinstance(above.func, ast.Attribute) and above.func.attr == "join"
            and isinstance(above.func.value, ast.Constant))


def walked_by(node):
    """What a loop walks, itself or through a call, each as its dump."""
    if isinstance(node, ast.Call):
        if isinstance(node.func, ast.Name) and node.func.id in WALKED:
            return [dump for item in node.args for dump in walked_by(item)]
        if isinstance(node.func, ast.Attribute) and is_walked_call(node):
            return [shape(node.func.value)]
        return []
    return [shape(node)] if isinstance(node, (ast.Name, ast.Attribute, ast.Subscript)) else []


def shape(node):
    return ast.unparse(node)


def loop_faults(source, package):
    for loop in source.of(ast.For):
        walked = walked_by(loop.iter)
        for node in [inner for row in loop.body for inner in ast.walk(row)]:
            if isinstance(node, ast.Call) and isinstance(node.func, ast.Attribute):
                if node.func.attr in CHANGES and shape(node.func.value) in walked:
                    yield ("L23", node, "a change of what is walked")
            if isinstance(node, ast.Subscript) and isinstance(node.ctx, ast.Store) and shape(node.value) in walked:
                yield ("L23", node, "a change of what is walked")


def is_set_call(node):
    if isinstance(node, ast.BinOp):
        return (isinstance(node.op, (ast.Sub, ast.BitAnd, ast.BitOr, ast.BitXor))
                and is_set_call(node.left) and is_set_call(node.right))
    return isinstance(node, ast.Call) and isinstance(node.func, ast.Name) and node.func.id in ("set", "frozenset")


def set_faults(source, package):
    for node in source.of(ast.Call):
        if is_set_call(node):
            outer = node
            while is_set_call(source.above[outer]) and isinstance(source.above[outer], ast.BinOp):
                outer = source.above[outer]
            if not is_set_place(outer, source.above[outer]):
                yield ("L24", node, "a set that is kept")


def is_set_place(node, above):
    if isinstance(above, ast.Compare):
        sides = [above.left] + above.comparators
        if all(isinstance(operator, (ast.In, ast.NotIn)) for operator in above.ops):
            return node is not above.left
        return all(isinstance(operator, (ast.Eq, ast.NotEq)) for operator in above.ops) and all(map(is_set_call, sides))
    return (isinstance(above, ast.Call) and isinstance(above.func, ast.Name)
            and above.func.id in ("sorted", "len") and above.args == [node] and not above.keywords)


def method_faults(source, package):
    for node in source.of(ast.Attribute):
        if not isinstance(node.ctx, ast.Load):
            continue
        above = source.above[node]
        called = isinstance(above, ast.Call) and above.func is node
        if source.is_main and shape(node).startswith("sys."):
            continue
        if called and node.attr not in METHODS | package.methods | UNDER_METHODS:
            yield ("L25", node, node.attr)
        if not called and node.attr not in package.values:
            if not (isinstance(above, ast.keyword) and above.arg == "key" and node.attr in package.methods):
                yield ("L25", node, node.attr)


def caught(handler):
    names = handler.type.elts if isinstance(handler.type, ast.Tuple) else [handler.type]
    return [name.id for name in names if isinstance(name, ast.Name)]


def error_faults(source, package):
    for node in source.of(ast.Try):
        for handler in node.handlers:
            names = caught(handler)
            if not names or not set(names) <= package.class_names | ERRORS:
                yield ("L19", handler, "no named error class")
            if set(names) & {"Exception", "TypeError"}:
                yield ("L19", handler, "too wide a class")
            yield from narrow_faults(node, handler, names)
    for node in source.of(ast.Raise):
        if not isinstance(node.exc, ast.Call) or not isinstance(node.exc.func, ast.Name):
            yield ("L19", node, "an error that is not made on the spot")
        elif node.exc.func.id not in package.class_names | ERRORS:
            yield ("L19", node, "no error class")
        if node.cause is not None and not isinstance(node.cause, ast.Name):
            if not (isinstance(node.cause, ast.Constant) and node.cause.value is None):
                yield ("L19", node, "a cause")


def narrow_faults(node, handler, names):
    inner = [child for row in node.body for child in ast.walk(row)]
    calls = [child.func for child in inner if isinstance(child, ast.Call)]
    called = [func.id if isinstance(func, ast.Name) else func.attr for func in calls]
    barred = [child for child in inner if isinstance(child, (ast.JoinedStr, ast.Lambda, ast.Slice)) or (
        isinstance(child, (ast.BinOp, ast.AugAssign))
        and isinstance(child.op, (ast.Mult, ast.Pow, ast.Mod, ast.LShift, ast.RShift)))]
    if set(names) & {"ValueError", "LookupError"}:
        if barred or not called or not set(called) <= {"int", "str", "index", "remove"}:
            yield ("L19", handler, "a wide class round more than int, str, index, remove")
    elif "IndexError" in names and (barred or called):
        yield ("L19", handler, "IndexError round more than an index")


def under_faults(source, package):
    for node in source.functions:
        if node.name not in UNDER_METHODS or not isinstance(source.above[node], ast.ClassDef):
            continue
        returns = [row.value for row in ast.walk(node) if isinstance(row, ast.Return)]
        if node.name == "__init__":
            if any(value is not None for value in returns):
                yield ("L28", node, "a value of __init__")
            continue
        for inner in ast.walk(node):
            stored = isinstance(inner, (ast.Attribute, ast.Subscript)) and isinstance(inner.ctx, ast.Store)
            changed = (isinstance(inner, ast.Call) and isinstance(inner.func, ast.Attribute)
                       and inner.func.attr in CHANGES)
            if stored or changed or isinstance(inner, ast.AugAssign):
                yield ("L28", inner, "a change")
        if node.name != "__eq__" and not all(is_told(node.name, value) for value in returns):
            yield ("L28", node, "what it gives back")


def is_told(method, value):
    called = isinstance(value, ast.Call)
    named = value.func.id if called and isinstance(value.func, ast.Name) else ""
    if method == "__len__":
        return named == "len" or (isinstance(value, ast.Constant) and isinstance(value.value, int))
    joined = (called and isinstance(value.func, ast.Attribute) and value.func.attr == "join"
              and isinstance(value.func.value, ast.Constant))
    written = isinstance(value, ast.JoinedStr) or (isinstance(value, ast.Constant) and isinstance(value.value, str))
    return joined or written or named in ("str", "repr")


def unused_faults(source, package):
    read = {node.id for node in source.of(ast.Name) if isinstance(node.ctx, ast.Load)}
    for name, node in imported(source):
        if name not in read and getattr(node, "module", "") != "__future__":
            yield ("unused", node, name)
    for function in source.functions:
        inside = {node.id for node in ast.walk(function)
                  if isinstance(node, ast.Name) and isinstance(node.ctx, ast.Load)}
        for node in ast.walk(function):
            if isinstance(node, ast.Name) and isinstance(node.ctx, ast.Store) and node.id not in inside:
                yield ("unused", node, node.id)
            if isinstance(node, ast.arg) and node.arg not in inside and node.arg != "self":
                yield ("unused", node, node.arg)
