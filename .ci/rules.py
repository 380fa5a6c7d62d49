"""Checks the rules of LANGUAGE.md that a script can see over the files of a package.

Usage: python3 .ci/rules.py FOLDER
Prints a line for each fault and exits with 1 if there is one. It is narrower than the rules where that is simpler:
what it passes keeps the rules that it checks, but it may refuse what a rule allows and this package does not need.
"""

import ast
import builtins
import io
import pathlib
import re
import sys
import tokenize
import types
import warnings

BUILTINS = set("""len range enumerate zip min max sum abs sorted reversed int str bool bytes list tuple dict set
isinstance ord repr any all divmod pow Exception ValueError TypeError KeyError IndexError LookupError ZeroDivisionError
ArithmeticError OverflowError RuntimeError NotImplementedError AttributeError StopIteration NotImplemented""".split())
KEYWORDS = {"sorted": {"key", "reverse"}, "min": {"key", "default"}, "max": {"key", "default"}, "sum": {"start"},
            "enumerate": {"start"}, "zip": {"strict"}}
METHODS = set("""append clear copy count endswith extend find get index insert isalnum isalpha isdigit islower isspace
isupper items join keys ljust lower lstrip partition pop remove replace reverse rfind rjust rpartition rsplit rstrip
setdefault split splitlines startswith strip update upper values zfill bit_length add discard""".split())
OWN_METHODS = METHODS | {"sort"}
CHANGING = {"append", "clear", "extend", "insert", "pop", "remove", "reverse", "setdefault", "update", "sort"}
ATTRIBUTES = set("count index title find get join lower upper split strip copy add".split())
BARRED_ATTRIBUTES = set("""items keys values pop update append clear extend insert remove reverse setdefault sort args
encode decode hex fromhex format format_map mro""".split())
DUNDERS = {f"__{name}__" for name in """init eq repr str len enter exit call iter lt le gt ge ne add sub mul floordiv mod
pow and or xor lshift rshift radd rsub rmul iadd isub imul neg pos invert abs bool contains getitem setitem""".split()}
NOWHERE = set("register mro elements open input law version_info with_traceback add_note".split())
NOWHERE |= {name for thing in (types.FrameType, types.TracebackType, types.CodeType, types.GeneratorType)
            for name in dir(thing) if re.match("(f|tb|co|gi)_", name)}
NO_VARIABLES = set("""attrgetter breakpoint builtins compile copyright credits delattr dir eval exec exit gc getattr
globals hasattr help id importlib license locals methodcaller os quit setattr super type vars sys""".split())
WORDS = set("""typing typing_extensions enum Enum IntEnum StrEnum Flag IntFlag Generic Protocol ABC ABCMeta namedtuple
NamedTuple TypedDict TYPE_CHECKING abstractmethod""".split())
PARTS_OF_WORDS = ("dataclass", "overload", "contextmanager")
BARRED_FILES = {"test", "tests", "testing", "site", "conftest", "sitecustomize", "usercustomize"} | set(dir(builtins))
ITERATED = {"list", "tuple", "dict", "sorted", "sum", "any", "all", "enumerate", "zip", "min", "max"}
LAZY = {"zip", "enumerate", "reversed", "range"}
VIEWS = {"items", "keys", "values"}
MOST_LINES, MOST_FUNCTION_LINES, MOST_LETTERS, MOST_FILES = 399, 40, 120, 100
FUNCTIONS = (ast.FunctionDef, ast.AsyncFunctionDef)
COMPREHENSIONS = (ast.ListComp, ast.SetComp, ast.DictComp, ast.GeneratorExp)
MANY_LITERALS = (ast.List, ast.Dict, ast.Set, ast.ListComp, ast.DictComp, ast.SetComp)


class File:
    """A file of the package with its tree, in which each node knows the one above it."""

    def __init__(self, name, text):
        self.name = name
        self.text = text
        with warnings.catch_warnings():
            warnings.simplefilter("ignore")
            self.tree = ast.parse(text)
        self.tree.above = None
        for node in ast.walk(self.tree):
            for child in ast.iter_child_nodes(node):
                child.above = node
        self.nodes = list(ast.walk(self.tree))
        self.docstrings = {id(found) for node in self.nodes if (found := docstring_of(node)) is not None}

    def all(self, *kinds):
        return [node for node in self.nodes if isinstance(node, kinds)]


class Package:
    """The files of a package, and the names that they define."""

    def __init__(self, name, texts):
        self.name = name
        self.files = [File(file, text) for file, text in sorted(texts.items())]
        nodes = [node for file in self.files for node in file.nodes]
        self.classes = {node.name for node in nodes if isinstance(node, ast.ClassDef)}
        functions = [node for node in nodes if isinstance(node, FUNCTIONS)]
        self.methods = {node.name for node in functions if isinstance(node.above, ast.ClassDef)}
        self.properties = {node.name for node in functions if node.decorator_list}
        self.generators = {node.name for node in functions if any(isinstance(inner, (ast.Yield, ast.YieldFrom))
                                                                  for inner in own_nodes(node))}
        self.attributes = {node.attr for node in nodes if isinstance(node, ast.Attribute) and is_stored(node)}
        self.errors = self.error_classes(nodes)

    def error_classes(self, nodes):
        found = {name for name in BUILTINS if name.endswith(("Error", "Exception", "Iteration"))}
        for _ in range(100):
            for node in nodes:
                if isinstance(node, ast.ClassDef) and any(name_of(base) in found for base in node.bases):
                    found.add(node.name)
        return found

    def bindings(self, file):
        """What a file binds at module level, with how it does so."""
        found = []
        for node in file.tree.body:
            if isinstance(node, ast.ImportFrom):
                found += [(alias.asname or alias.name, node) for alias in node.names]
            elif isinstance(node, (*FUNCTIONS, ast.ClassDef)):
                found.append((node.name, node))
            elif isinstance(node, ast.Assign):
                found += [(name_of(target), node) for target in node.targets]
        return found

    def modules(self):
        return {f"{self.name}.{file.name[:-3]}": file for file in self.files}


def docstring_of(node):
    if not isinstance(node, (ast.Module, ast.ClassDef, *FUNCTIONS)) or not node.body:
        return None
    first = node.body[0]
    if isinstance(first, ast.Expr) and isinstance(first.value, ast.Constant) and isinstance(first.value.value, str):
        return first.value
    return None


def own_nodes(function):
    """The nodes of a function without those of the functions nested in it."""
    waiting, found = list(ast.iter_child_nodes(function)), []
    while waiting:
        node = waiting.pop()
        found.append(node)
        if not isinstance(node, (*FUNCTIONS, ast.Lambda)):
            waiting += ast.iter_child_nodes(node)
    return found


def name_of(node):
    return node.id if isinstance(node, ast.Name) else None


def called_name(node):
    return name_of(node.func) if isinstance(node, ast.Call) else None


def called_method(node):
    return node.func.attr if isinstance(node, ast.Call) and isinstance(node.func, ast.Attribute) else None


def is_stored(node):
    return isinstance(node.ctx, (ast.Store, ast.Del))


def is_plain(node):
    if isinstance(node, ast.UnaryOp) and isinstance(node.op, ast.USub):
        return isinstance(node.operand, ast.Constant) and type(node.operand.value) is int
    return isinstance(node, ast.Constant) and isinstance(node.value, (int, str, bytes, bool, type(None)))


def is_plain_tuple(node):
    return is_plain(node) or isinstance(node, ast.Tuple) and all(is_plain_tuple(part) for part in node.elts)


def is_table(node):
    """Whether a node is a list, tuple or dict of plain values, names of functions, and tuples of these."""
    if isinstance(node, (ast.List, ast.Tuple)):
        parts = node.elts
    elif isinstance(node, ast.Dict):
        parts = [*node.keys, *node.values]
    else:
        return False
    return all(part is not None and (is_plain_tuple(part) or name_of(part) or isinstance(part, ast.Tuple)
                                     and is_table(part)) for part in parts)


def function_around(node):
    while node is not None and not isinstance(node, (*FUNCTIONS, ast.Lambda)):
        node = node.above
    return node


def is_set(node):
    return isinstance(node, (ast.Set, ast.SetComp)) or called_name(node) == "set"


def is_annotation(node):
    while node is not None:
        above = node.above
        if isinstance(above, ast.arg) or isinstance(above, FUNCTIONS) and node is above.returns:
            return True
        if isinstance(above, ast.AnnAssign) and node is above.annotation:
            return True
        node = above
    return False


# The rules: each function yields tuples (node or line, rule, what is wrong).


def check_imports(package, file):
    """L2, L16: imports stand at the top, and name what the very file of the package defines."""
    modules = package.modules()
    at_top = True
    for node in file.tree.body:
        if isinstance(node, (ast.Import, ast.ImportFrom)):
            if not at_top:
                yield node, "L2", "an import below other code"
        elif docstring_of(file.tree) is None or node is not file.tree.body[0]:
            at_top = False
    for node in file.all(ast.Import, ast.ImportFrom):
        if node.above is not file.tree:
            yield node, "L2", "an import that does not stand at the top"
        if isinstance(node, ast.Import) or node.level or node.module not in modules:
            yield node, "L2", "an import that is not from a module of the package by its full name"
            continue
        defined = [name for name, how in package.bindings(modules[node.module]) if not isinstance(how, ast.ImportFrom)]
        for alias in node.names:
            if alias.asname or alias.name not in defined:
                yield node, "L16", f"{alias.name} is not defined in {node.module}"


def check_circles(package, file):
    """L16: no two files import from each other."""
    modules = package.modules()
    reached, waiting = set(), [file]
    while waiting:
        for node in waiting.pop().all(ast.ImportFrom):
            if node.module in modules and node.module not in reached:
                reached.add(node.module)
                waiting.append(modules[node.module])
    if f"{package.name}.{file.name[:-3]}" in reached:
        yield 1, "L16", "the file imports itself through others"


def check_module_level(package, file):
    """L3, L15: docstring, imports, functions, classes, and names with plain values; each name once."""
    for at, node in enumerate(file.tree.body):
        if at == 0 and docstring_of(file.tree) is not None:
            continue
        if isinstance(node, ast.Assign):
            if len(node.targets) != 1 or name_of(node.targets[0]) is None:
                yield node, "L3", "an assignment at module level to other than one name"
            if not is_plain_tuple(node.value) and not is_table(node.value):
                yield node, "L3", "a value at module level that is not plain"
        elif not isinstance(node, (ast.ImportFrom, ast.Import, ast.FunctionDef, ast.ClassDef)):
            yield node, "L3", "a statement at module level"
    names = [name for name, _ in package.bindings(file)]
    for name, node in package.bindings(file):
        if names.count(name) > 1:
            yield node, "L15", f"{name} is bound more than once"
        if name in dir(builtins):
            yield node, "L15", f"{name} is the name of a builtin"
    for node in file.all(ast.ClassDef):
        if node.above is not file.tree:
            yield node, "L15", "a class that is not at module level"


def check_tables(package, file):
    """L15: a list or dict at module level is only read."""
    tables = [name for name, node in package.bindings(file)
              if isinstance(node, ast.Assign) and isinstance(node.value, (ast.List, ast.Dict))]
    for node in file.all(ast.Name):
        if node.id not in tables or is_stored(node):
            continue
        above = node.above
        read = (isinstance(above, ast.Subscript) and node is above.value and not is_stored(above)
                or isinstance(above, (ast.Compare, ast.For, ast.comprehension))
                or called_name(above) in ITERATED | {"len"}
                or isinstance(above, ast.Attribute) and above.attr in {"get", "index", "count"} | VIEWS)
        if not read:
            yield node, "L15", f"{node.id} stands at module level and is not only read"


def check_locals(package, file):
    """L15: no parameter, local variable or nested function has the name of a class, an import or a builtin."""
    taken = {name for name, node in package.bindings(file) if isinstance(node, (ast.ClassDef, ast.ImportFrom))}
    taken |= set(dir(builtins))
    for node in file.all(ast.arg, ast.Name, *FUNCTIONS):
        nested = isinstance(node, FUNCTIONS) and isinstance(function_around(node.above), FUNCTIONS)
        name = node.arg if isinstance(node, ast.arg) else node.name if nested else name_of(node)
        if isinstance(node, ast.Name) and (not is_stored(node) or function_around(node) is None):
            continue
        if name in taken:
            yield node, "L15", f"{name} is the name of a class, an import or a builtin"


def check_sizes(package, file):
    """L10, L14: sizes and characters."""
    lines = file.text.split("\n")
    if len(lines) - 1 > MOST_LINES:
        yield MOST_LINES, "L10", "too many lines"
    for at, line in enumerate(lines, 1):
        if len(line) > MOST_LETTERS:
            yield at, "L10", "a line that is too long"
        if any(not " " <= letter <= "~" for letter in line):
            yield at, "L14", "a character that is not allowed"
    for node in file.all(*FUNCTIONS):
        first = min([node.lineno] + [decorator.lineno for decorator in node.decorator_list])
        if node.end_lineno - first + 1 > MOST_FUNCTION_LINES:
            yield node, "L10", f"{node.name} has too many lines"


def check_file_names(package, file):
    """L1, L14: names of files and how many there are."""
    stem = file.name[:-3]
    if not re.fullmatch("[a-z][a-z0-9_]*|__init__|__main__", stem):
        yield 1, "L14", "the name of the file is not plain"
    if stem in BARRED_FILES | NOWHERE | NO_VARIABLES or re.match("law_|test_", stem):
        yield 1, "L14", "the name of the file is barred"
    if len(package.files) > MOST_FILES or "__init__.py" not in [one.name for one in package.files]:
        yield 1, "L14", "too many files, or no __init__.py"


def check_functions(package, file):
    """L4, L5, L28: decorators, default values, double-underscore methods."""
    for node in file.all(*FUNCTIONS):
        in_class = isinstance(node.above, ast.ClassDef)
        if node.decorator_list and not in_class:
            yield node, "L4", "a decorator"
        for decorator in node.decorator_list:
            if name_of(decorator) not in {"property", "staticmethod", "classmethod"} and not is_setter(decorator):
                yield node, "L5", "a decorator that is not allowed"
        for value in [*node.args.defaults, *node.args.kw_defaults]:
            if value is not None and not is_plain_tuple(value):
                yield value, "L4", "a default value that is not plain"
        if node.name.startswith("__") and (not in_class or node.name not in DUNDERS):
            yield node, "L5", f"{node.name} is not allowed"
        if node.name.startswith("__") and node.name != "__init__" and node.args.kwonlyargs:
            yield node, "L4", "a bare star"
        yield from check_returns(node)
    for node in file.all(ast.ClassDef):
        if node.decorator_list or node.keywords:
            yield node, "L5", "a decorator or a keyword of a class"
        names = [part.name for part in node.body if isinstance(part, FUNCTIONS) and not
                 any(is_setter(decorator) for decorator in part.decorator_list)]
        for name in names:
            if names.count(name) > 1:
                yield node, "L18", f"{name} is defined twice"


def is_setter(decorator):
    return isinstance(decorator, ast.Attribute) and decorator.attr == "setter"


def check_returns(function):
    """L28: what double-underscore methods return."""
    for node in own_nodes(function):
        if not isinstance(node, ast.Return):
            continue
        if function.name == "__init__":
            yield node, "L28", "__init__ returns something"
        if function.name == "__len__" and called_name(node.value) != "len" and not is_plain(node.value):
            yield node, "L28", "__len__ returns other than len(..)"
        shown = (isinstance(node.value, ast.JoinedStr) or called_name(node.value) in {"str", "repr"}
                 or isinstance(node.value, ast.Constant) and isinstance(node.value.value, str)
                 or called_method(node.value) == "join")
        if function.name in {"__repr__", "__str__"} and not shown:
            yield node, "L28", f"{function.name} returns other than a string"
    if function.name in {"__len__", "__repr__", "__str__"} and not isinstance(function.body[-1], ast.Return):
        yield function, "L28", f"{function.name} does not end with a return"


def check_statements(package, file):
    """L6, L19: statements that are not allowed, and errors."""
    barred = (ast.Global, ast.AsyncFunctionDef, ast.AsyncFor, ast.AsyncWith, ast.Await, ast.TryStar)
    for node in file.all(*barred):
        yield node, "L6", "a statement that is not allowed"
    for node in file.all(ast.ExceptHandler):
        named = node.type.elts if isinstance(node.type, ast.Tuple) else [node.type]
        for one in named:
            if name_of(one) not in package.errors - {"Exception", "TypeError", "ArithmeticError", "OverflowError",
                                                     "RuntimeError", "NotImplementedError", "AttributeError"}:
                yield node, "L19", "a handler that does not name an error that may be caught"
    for node in file.all(ast.Raise):
        if node.exc is not None and called_name(node.exc) not in package.errors:
            yield node, "L19", "a raise that does not create its error on the spot"
    for node in file.all(ast.Compare):
        for sign, right in zip(node.ops, node.comparators):
            if isinstance(sign, (ast.Is, ast.IsNot)) and not (isinstance(right, ast.Constant)
                                                              and right.value in (None, True, False)):
                yield node, "L20", "is beside other than None, True and False"


def check_expressions(package, file):
    """L7, L8: values, signs and builtins."""
    equal = "__eq__" in package.methods
    for node in file.all(ast.Constant):
        if isinstance(node.value, (float, complex)):
            yield node, "L7", "a float"
    for node in file.all(ast.BinOp, ast.AugAssign):
        if isinstance(node.op, (ast.Div, ast.MatMult)):
            yield node, "L7", "a sign that is not allowed"
    for node in file.all(*COMPREHENSIONS):
        if function_around(node) is None:
            yield node, "L7", "a comprehension outside of functions"
        if len(node.generators) > 6 or sum(len(part.ifs) for part in node.generators) > 12:
            yield node, "L7", "a comprehension with too many parts"
    for node in file.all(ast.GeneratorExp):
        allowed = {"list", "tuple", "dict"} if equal else ITERATED - {"enumerate", "zip"}
        if called_name(node.above) not in allowed and called_method(node.above) != "join":
            yield node, "L7", "a generator expression that stands elsewhere than in list, tuple, dict or join"
    bound = {name for name, _ in package.bindings(file)}
    for node in file.all(ast.Name):
        if node.id in dir(builtins) and node.id not in BUILTINS | {"property", "staticmethod", "classmethod"}:
            if node.id not in bound and not is_annotation(node):
                yield node, "L8", f"{node.id} is not used"


def check_names(package, file):
    """L12, L17: names."""
    for name, node, is_variable in all_names(file):
        plain = re.fullmatch("_?[A-Za-z][A-Za-z0-9_]*|_", name)
        if not plain and name not in DUNDERS | {"__class__", "__name__"}:
            yield node, "L12", f"{name} is not a plain name"
        if re.match("_wall|_pe_|_dcw_|_enum_|_cm_|_twin_re_|_lay_|_law_|_stub_|_sre|_WallAttr", name):
            yield node, "L12", f"{name} is barred"
        if re.match("(_cold|_tuplegetter|_outside|_record|_written_out|_member_names)[0-9_]*$", name):
            yield node, "L12", f"{name} is barred"
        if name in NOWHERE or is_variable and name in NO_VARIABLES:
            yield node, "L17", f"{name} is not used as a name"
        if name in WORDS or name == "type":
            yield node, "L17", f"{name} does not occur"
    for node in file.all(ast.Name):
        if node.id == "_" and not is_stored(node):
            yield node, "L12", "_ is read"


def all_names(file):
    """All names with their nodes, and whether an attribute of that name might be allowed where this is not."""
    for node in file.nodes:
        if isinstance(node, ast.Name):
            yield node.id, node, True
        elif isinstance(node, ast.arg):
            yield node.arg, node, True
        elif isinstance(node, (*FUNCTIONS, ast.ClassDef)):
            yield node.name, node, True
        elif isinstance(node, ast.alias):
            yield node.asname or node.name, node, True
        elif isinstance(node, ast.ExceptHandler) and node.name:
            yield node.name, node, True
        elif isinstance(node, ast.Attribute):
            yield node.attr, node, False
        elif isinstance(node, ast.keyword) and node.arg:
            yield node.arg, node, False


def check_words(package, file):
    """L17, L27: words in strings, and how strings are written."""
    for node in file.all(ast.Constant):
        if isinstance(node.value, str) and id(node) not in file.docstrings:
            for word in re.findall("[A-Za-z_0-9]+", node.value):
                if word in WORDS:
                    yield node, "L17", f"{word} in a string"
                if re.search("[.{}]", node.value) and " " not in node.value and word.startswith("__"):
                    yield node, "L27", "a word with two underscores in a string"
            if any(part in node.value for part in PARTS_OF_WORDS):
                yield node, "L17", "a barred part of a word in a string"
            if node.value.endswith(("._", ".__")) or node.value in NOWHERE:
                yield node, "L27", "a string that is barred"
            if re.fullmatch("__.*__", node.value) and node.value != "__main__":
                yield node, "L27", "a string between underscores"
    for token in tokenize.generate_tokens(io.StringIO(file.text).readline):
        if token.type == tokenize.NAME and any(part in token.string for part in PARTS_OF_WORDS):
            yield token.start[0], "L17", "a barred part of a word"
        if token.type == tokenize.STRING or "STRING" in tokenize.tok_name[token.type]:
            if "%" in token.string:
                yield token.start[0], "L27", "the percent sign in a string"
            signs = "[^nt\\\\'\"]" if not token.string.lower().startswith("b") else "[^nt\\\\'\"x]"
            if re.search("(?<!\\\\)(\\\\\\\\)*\\\\" + signs, token.string, re.DOTALL):
                yield token.start[0], "L27", "an escape that is not allowed"


def check_numbers(package, file):
    """L27: exponents, chr, f-strings and numbers."""
    for node in file.all(ast.BinOp, ast.AugAssign):
        if isinstance(node.op, ast.Pow):
            power = node.right if isinstance(node, ast.BinOp) else node.value
            if not is_plain(power) or type(getattr(power, "value", None)) is not int or not 0 <= power.value <= 64:
                yield node, "L27", "an exponent that is not a literal from 0 to 64"
    for node in file.all(ast.Call):
        if called_name(node) == "pow" and len(node.args) != 3:
            yield node, "L27", "pow of two arguments"
    for node in file.all(ast.Constant):
        if type(node.value) is int and node.value >= 10 ** 900:
            yield node, "L27", "a number with too many digits"
    for node in file.all(ast.FormattedValue):
        inner = [part for part in ast.walk(node.value) if isinstance(part, (ast.Constant, ast.JoinedStr))]
        if any(isinstance(getattr(part, "value", ""), (str, bytes)) for part in inner):
            yield node, "L27", "a string inside the braces of an f-string"
        if node.conversion == ord("a"):
            yield node, "L7", "a format that is not allowed"
    for at, line in compile_warnings(file):
        yield at, "L27", line


def compile_warnings(file):
    with warnings.catch_warnings(record=True) as told:
        warnings.simplefilter("always")
        compile(file.text, file.name, "exec")
    return [(one.lineno, str(one.message)) for one in told]


def check_sets(package, file):
    """L13, L24: where sets stand, and what is in them."""
    for node in file.all(ast.Set, ast.SetComp, ast.Call):
        if called_name(node) == "frozenset":
            yield node, "L24", "a frozenset"
        if is_set(node) and not is_used_set(node):
            yield node, "L24", "a set that stands where none may"
        if called_name(node) == "set" and node.args and is_set(node.args[0]):
            yield node, "L24", "a set of a set"
    for node in file.all(ast.Set):
        numbers = [part for part in node.elts if is_plain(part) and type(ast.literal_eval(part)) is int]
        if len(numbers) > 2 and not isinstance(node.above, ast.Compare):
            yield node, "L13", "a literal set of three integers"
    for node in file.all(ast.Set, ast.Dict, ast.SetComp, ast.DictComp):
        for member in members_of(node):
            parts = [member, *ast.walk(member)] if isinstance(member, ast.Tuple) else [member]
            if any(isinstance(part, MANY_LITERALS) for part in parts):
                yield node, "L24", "a key or member that is a list, a dict or a set"
    for function in file.all(*FUNCTIONS):
        yield from check_stored_sets(function)


def members_of(node):
    if isinstance(node, ast.Set):
        return node.elts
    if isinstance(node, ast.Dict):
        return [key for key in node.keys if key is not None]
    return [node.key if isinstance(node, ast.DictComp) else node.elt]


def is_used_set(node):
    """Whether a set stands behind in, beside == of a set, in sorted(..) or len(..), or is stored by itself."""
    above = node.above
    while isinstance(above, ast.BinOp) and isinstance(above.op, (ast.Sub, ast.BitAnd, ast.BitOr, ast.BitXor)):
        node, above = above, above.above
    if isinstance(above, ast.Compare) and len(above.ops) == 1:
        if isinstance(above.ops[0], (ast.In, ast.NotIn)):
            return node is above.comparators[0]
        return isinstance(above.ops[0], (ast.Eq, ast.NotEq))
    if called_name(above) in {"sorted", "len"}:
        return not above.keywords and above.args == [node]
    return isinstance(above, ast.Assign) and len(above.targets) == 1 and name_of(above.targets[0]) is not None


def check_stored_sets(function):
    """L24: a set that a variable stores is assigned once and used in a few ways."""
    nodes = [node for node in ast.walk(function) if isinstance(node, ast.Name)]
    stored = {name_of(node.targets[0]) for node in ast.walk(function)
              if isinstance(node, ast.Assign) and is_set(node.value) and node.value.above is node}
    for name in stored - {None}:
        uses = [node for node in nodes if node.id == name]
        if sum(1 for node in uses if is_stored(node)) != 1:
            yield function, "L24", f"{name} stores a set and is assigned more than once"
        for node in uses:
            if not is_stored(node) and not is_right_use(node):
                yield node, "L24", f"{name} stores a set and is used as none may be"


def is_right_use(node):
    above = node.above
    if isinstance(above, ast.Attribute):
        return above.attr in {"add", "discard"} and isinstance(above.above.above, ast.Expr)
    if isinstance(above, ast.Compare):
        return isinstance(above.ops[0], (ast.In, ast.NotIn, ast.Eq, ast.NotEq))
    if called_name(above) in {"len", "sorted"}:
        return True
    while isinstance(above, (ast.BoolOp, ast.UnaryOp)):
        node, above = above, above.above
    return isinstance(above, (ast.If, ast.While, ast.Assert, ast.IfExp)) and node is above.test


def check_methods(package, file):
    """L25, L26: methods of builtin values, own methods and attributes."""
    builtin = {name for thing in (str, int, list, dict, set, bytes, tuple) for name in dir(thing)}
    for node in file.all(ast.Attribute):
        called = isinstance(node.above, ast.Call) and node is node.above.func
        own = package.methods | package.attributes
        if node.attr not in own | METHODS | {"__class__", "__name__"} and not is_setter(node):
            yield node, "L25", f"{node.attr} is no method or attribute that may be used"
        if node.attr in METHODS - own and not called:
            yield node, "L25", f"{node.attr} is not called where it stands"
        if called and node.attr in METHODS and node.above.keywords:
            yield node, "L25", f"{node.attr} is called with keywords"
        if is_stored(node) and (node.attr in BARRED_ATTRIBUTES or node.attr in builtin - ATTRIBUTES):
            yield node, "L26", f"{node.attr} is not the name of an attribute"
        if is_stored(node) and name_of(node.value) is None:
            yield node, "L18", "an attribute that is not assigned through a local name"
    for node in file.all(*FUNCTIONS):
        if isinstance(node.above, ast.ClassDef) and node.name in builtin - OWN_METHODS - DUNDERS:
            yield node, "L26", f"{node.name} is not the name of a method"
        if node.decorator_list and node.name in builtin:
            yield node, "L5", f"{node.name} is not the name of a property"
        if isinstance(node.above, ast.ClassDef):
            stored = [inner for part in node.above.body for inner in ast.walk(part)
                      if isinstance(inner, ast.Attribute) and is_stored(inner) and name_of(inner.value) == "self"]
            if node.name in [inner.attr for inner in stored]:
                yield node, "L18", f"{node.name} is a method and an attribute"


def check_calls(package, file):
    """L18, L22: how builtins and classes are called."""
    for node in file.all(ast.Call):
        name = called_name(node)
        if name in BUILTINS - package.errors:
            for keyword in node.keywords:
                if keyword.arg not in KEYWORDS.get(name, set()):
                    yield node, "L22", f"{name} with the keyword {keyword.arg}"
        if name == "isinstance":
            kinds = node.args[1].elts if isinstance(node.args[1], ast.Tuple) else node.args[1:]
            known = package.classes | {"int", "str", "bool", "bytes", "list", "tuple", "dict"}
            if any(name_of(kind) not in known for kind in kinds):
                yield node, "L22", "isinstance of other than a class"
    for node in file.all(ast.Name):
        if node.id in package.classes and not is_stored(node) and not is_class_use(node):
            yield node, "L18", f"{node.id} is used as a value"
        if node.id in BUILTINS - package.errors - {"NotImplemented"} and not is_builtin_use(node):
            yield node, "L22", f"{node.id} is used as a value"
        if node.id == "NotImplemented" and not isinstance(node.above, ast.Return):
            yield node, "L5", "NotImplemented that is not returned"


def is_class_use(node):
    above = node.above
    if isinstance(above, ast.Tuple):
        node, above = above, above.above
    return (isinstance(above, ast.Call) and (node is above.func or called_name(above) == "isinstance")
            or isinstance(above, (ast.ClassDef, ast.ExceptHandler, ast.Raise)) or is_annotation(node)
            or isinstance(above, ast.Attribute))


def is_builtin_use(node):
    above = node.above
    if isinstance(above, ast.Call) and node is above.func or isinstance(above, ast.keyword) and above.arg == "key":
        return True
    return is_class_use(node) and not isinstance(above, ast.Attribute) or isinstance(above, ast.ClassDef)


def check_iteration(package, file):
    """L23: what is iterated at once, and what a loop does not change."""
    for node in file.all(ast.Call):
        lazy = called_name(node) in LAZY or called_method(node) in VIEWS - package.methods
        generator = (called_name(node) or called_method(node)) in package.generators
        if (lazy or generator) and not is_iterated(node):
            yield node, "L23", "something lazy that is not iterated at once"
    for node in file.all(ast.For):
        yield from check_loop(node)
    for node in file.all(ast.Name, ast.Attribute):
        name = node.id if isinstance(node, ast.Name) else node.attr
        called = isinstance(node.above, ast.Call) and node is node.above.func
        if name in package.generators and not called and not is_stored(node):
            yield node, "L23", f"{name} is a generator and is not called"


def is_iterated(node):
    above = node.above
    if isinstance(above, (ast.For, ast.comprehension)):
        return node is above.iter
    if isinstance(above, ast.YieldFrom) or called_method(above) == "join":
        return True
    if called_name(node) == "range" and called_name(above) == "reversed":
        return True
    return called_name(above) in ITERATED and node in above.args


def check_loop(loop):
    """What a loop iterates over is not changed in it."""
    over = loop.iter
    if isinstance(over, ast.Call) and called_name(over) in {"enumerate", "reversed", "zip"} and over.args:
        names = {ast.dump(arg) for arg in over.args}
    elif called_method(over) in VIEWS:
        names = {ast.dump(over.func.value)}
    else:
        names = {ast.dump(over)}
    for node in [inner for part in loop.body for inner in ast.walk(part)]:
        changed = None
        if called_method(node) in CHANGING:
            changed = node.func.value
        elif isinstance(node, ast.Subscript) and is_stored(node):
            changed = node.value
        if changed is not None and ast.dump(changed) in names:
            yield node, "L23", "a loop changes what it iterates over"


CHECKS = [check_imports, check_circles, check_module_level, check_tables, check_locals, check_sizes, check_file_names,
          check_functions, check_statements, check_expressions, check_names, check_words, check_numbers, check_sets,
          check_methods, check_calls, check_iteration]


def faults(name, texts):
    """The faults of a package, told by the texts of its files: tuples (file, line, rule, what is wrong)."""
    package = Package(name, texts)
    found = []
    for file in package.files:
        for check in CHECKS:
            for where, rule, wrong in check(package, file):
                line = where if isinstance(where, int) else getattr(where, "lineno", 1)
                found.append((file.name, line, rule, wrong))
    return sorted(set(found))


def folder_faults(folder):
    """The faults of a package in a folder."""
    paths = [path for path in sorted(folder.iterdir()) if path.name != "__pycache__"]
    strange = [(path.name, 1, "L1", "no file of Python") for path in paths if path.suffix != ".py"]
    texts = {path.name: path.read_bytes().decode("utf-8") for path in paths if path.suffix == ".py"}
    return strange + faults(folder.name, texts)


def main():
    found = folder_faults(pathlib.Path(sys.argv[1]))
    for name, line, rule, wrong in found:
        print(f"{sys.argv[1]}/{name}:{line}: {rule}: {wrong}")
    print(f"rules: {len(found)} faults")
    sys.exit(1 if found else 0)


if __name__ == "__main__":
    main()
