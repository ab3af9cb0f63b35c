"""A reader of the rules of LANGUAGE.md: what a script can see of them in the files of the package.

Some checks are narrower than the rule: they refuse what the rule would allow, as long as the package does not need it.
"""

import ast
import builtins
import io
import re
import tokenize

PACKAGE = "seatedtwice"
LIBRARY = {
    "heapq": {"heappush", "heappop", "heapify", "heapreplace", "heappushpop"},
    "math": {"gcd", "lcm", "isqrt", "comb", "perm", "factorial"},
    "itertools": {"product", "combinations", "permutations", "chain", "accumulate", "pairwise", "islice",
                  "zip_longest"},
    "collections": {"defaultdict", "deque"},
}
BUILTINS = set("""len range enumerate zip min max sum abs sorted reversed int str bool list tuple dict set isinstance
ord repr any all divmod pow iter next map super Exception ValueError TypeError KeyError IndexError LookupError
ZeroDivisionError ArithmeticError OverflowError RuntimeError NotImplementedError AttributeError StopIteration
NotImplemented property staticmethod classmethod""".split())
METHODS = set("""append clear copy count endswith extend find get index insert isalnum isalpha isdigit islower isspace
isupper items join keys ljust lower lstrip partition pop remove replace reverse rfind rjust rpartition rsplit rstrip
setdefault split splitlines startswith strip update upper values zfill bit_length title capitalize swapcase casefold
center expandtabs removeprefix removesuffix rindex isascii isdecimal isnumeric istitle isidentifier isprintable
translate add discard sort appendleft popleft extendleft rotate""".split())
DUNDERS = set("""init eq repr str len enter exit call iter lt le gt ge ne add sub mul floordiv mod pow and or xor
lshift rshift radd rsub rmul rfloordiv rmod rand ror rxor rlshift rrshift iadd isub imul ifloordiv imod ipow iand ior
ixor ilshift irshift neg pos invert abs bool contains getitem setitem""".split())
BARRED_EVERYWHERE = set("""mro elements open input law version_info with_traceback add_note f_back f_code f_globals
f_locals f_builtins f_lasti f_lineno f_trace tb_next tb_frame tb_lasti tb_lineno co_names co_code co_consts co_varnames
gi_frame gi_code cr_frame ag_frame""".split())
BARRED_NAMES = set("""attrgetter breakpoint builtins compile copyright credits delattr dir eval exec exit gc globals
help id importlib license locals methodcaller os quit vars sys __name__""".split())
BARRED_WORDS = set("""type typing typing_extensions enum Enum IntEnum StrEnum Flag IntFlag Generic Protocol ABC ABCMeta
namedtuple NamedTuple TypedDict TYPE_CHECKING abstractmethod""".split())
BARRED_PARTS = ("dataclass", "overload", "contextmanager")
BARRED_FILES = set("""test tests testing site conftest sitecustomize usercustomize heapq math itertools collections
""".split())
CAUGHT = {"KeyError", "ZeroDivisionError", "StopIteration", "ValueError", "LookupError", "IndexError"}
STATEMENTS = (ast.Assign, ast.AugAssign, ast.If, ast.While, ast.For, ast.Return, ast.Break, ast.Continue, ast.Pass,
              ast.Raise, ast.Assert, ast.Delete, ast.Nonlocal, ast.Match, ast.With, ast.Try, ast.Expr,
              ast.FunctionDef, ast.ClassDef, ast.ImportFrom)
OPERATORS = (ast.Add, ast.Sub, ast.Mult, ast.FloorDiv, ast.Mod, ast.Pow, ast.LShift, ast.RShift, ast.BitOr, ast.BitAnd,
             ast.BitXor)
ITERATED = {"zip", "enumerate", "reversed", "range", "items", "keys", "values", "map"}
ITERATORS = {"list", "tuple", "dict", "sorted", "sum", "any", "all", "enumerate", "zip", "min", "max", "len", "reversed",
             "join"}
TWO_SIDED = {f"__{name}__" for name in """lt le gt ge ne add sub mul floordiv mod pow and or xor lshift rshift contains
getitem""".split()}
ONE_SIDED = {f"__{name}__" for name in "neg pos invert abs bool".split()}
CHANGING = set("append clear extend insert pop remove reverse setdefault sort update add discard".split())
FUNCTIONS = (ast.FunctionDef, ast.Lambda)
COMPREHENSIONS = (ast.ListComp, ast.SetComp, ast.DictComp, ast.GeneratorExp)


class Source:
    """One file of the package: its name, its text, its tree, and the parent of each node."""

    def __init__(self, name, text):
        self.name = name
        self.text = text
        self.tree = ast.parse(text)
        self.parents = {child: node for node in ast.walk(self.tree) for child in ast.iter_child_nodes(node)}

    def nodes(self, *kinds):
        return [node for node in ast.walk(self.tree) if isinstance(node, kinds)]

    def at(self, node):
        return f"{self.name}.py:{getattr(node, 'lineno', 1)}"

    def docstrings(self):
        """The nodes of all docstrings."""
        found = []
        for node in [self.tree, *self.nodes(ast.FunctionDef, ast.ClassDef)]:
            first = node.body[0] if node.body else None
            if isinstance(first, ast.Expr) and isinstance(first.value, ast.Constant):
                if isinstance(first.value.value, str):
                    found.append(first.value)
        return found

    def is_inside(self, node, kinds):
        while node in self.parents:
            node = self.parents[node]
            if isinstance(node, kinds):
                return True
        return False


def complaints(texts):
    """What breaks a rule in a package of these files, a dict from the names of modules to their texts."""
    sources = [Source(name, text) for name, text in sorted(texts.items())]
    found = []
    for check in CHECKS:
        for source in sources:
            found.extend([f"{check.__doc__.split(' ')[0]} {where}: {what}" for where, what in check(source, sources)])
    return found


def own_names(sources, kinds):
    return {node.name for source in sources for node in source.nodes(*kinds)}


def own_methods(sources):
    return {part.name for source in sources for node in source.nodes(ast.ClassDef)
            for part in node.body if isinstance(part, ast.FunctionDef)}


def check_files(source, sources):
    """L1 plain lower-case names of files, none that is barred (L14)."""
    name = source.name
    if not re.fullmatch(r"[a-z][a-z0-9_]*|__init__|__main__", name):
        yield name, "is no plain name"
    if name in BARRED_FILES | BARRED_WORDS | set(BARRED_PARTS) or name.startswith(("test_", "law_")):
        yield name, "is barred as the name of a file"
    if name in dir(builtins):
        yield name, "is the name of a builtin"


def check_imports(source, sources):
    """L2 imports at the top, of names out of modules of the package, from the very file (L16)."""
    behind = False
    for statement in source.tree.body:
        if isinstance(statement, ast.ImportFrom):
            if behind:
                yield source.at(statement), "an import that does not stand at the top"
        elif not (isinstance(statement, ast.Expr) and isinstance(statement.value, ast.Constant)):
            behind = True
    for node in source.nodes(ast.Import):
        yield source.at(node), "an import of a module"
    defined = {other.name: set(module_names(other)) for other in sources}
    for node in source.nodes(ast.ImportFrom):
        module = node.module or ""
        names = [alias.name for alias in node.names]
        if node not in source.tree.body:
            yield source.at(node), "an import within other code"
        if node.level or "*" in names or [alias for alias in node.names if alias.asname]:
            yield source.at(node), "a dot, a star or an `as` in an import"
        if module in LIBRARY:
            if not set(names) <= LIBRARY[module]:
                yield source.at(node), f"{names} out of {module}"
            continue
        package, _, name = module.partition(".")
        if package != PACKAGE or name not in defined or name == "__main__":
            yield source.at(node), f"{module} is no module of the package"
        elif not set(names) <= defined[name]:
            yield source.at(node), f"{names} are not all defined in {module}"


def check_cycles(source, sources):
    """L16 no files that import from each other."""
    trees = {other.name: other for other in sources}

    def imported(name):
        return [node.module.partition(".")[2] for node in trees[name].nodes(ast.ImportFrom)
                if (node.module or "").partition(".")[2] in trees]

    reached, left = [], imported(source.name)
    while left:
        name = left.pop()
        if name not in reached:
            reached.append(name)
            left.extend(imported(name))
    if source.name in reached:
        yield source.at(source.tree), "imports itself by way of other files"


def module_names(source):
    """The names that a file defines at module level, imports left out."""
    names = []
    for statement in source.tree.body:
        if isinstance(statement, (ast.FunctionDef, ast.ClassDef)):
            names.append(statement.name)
        elif isinstance(statement, ast.Assign):
            names.extend([target.id for target in statement.targets if isinstance(target, ast.Name)])
    return names


def is_plain(node):
    """Whether an expression is a literal value, with names of functions allowed."""
    if isinstance(node, ast.Constant):
        return not isinstance(node.value, (float, complex)) and node.value is not ...
    if isinstance(node, (ast.List, ast.Tuple)):
        return all(is_plain(item) for item in node.elts)
    if isinstance(node, ast.Dict):
        return all(key is not None and is_plain(key) for key in node.keys) and all(map(is_plain, node.values))
    if isinstance(node, ast.UnaryOp):
        return isinstance(node.op, ast.USub) and is_plain(node.operand)
    return isinstance(node, ast.Name)


def check_module_level(source, sources):
    """L3 docstring, imports, functions, classes and plain values, each bound once (L15)."""
    names = [alias.name for node in source.nodes(ast.ImportFrom) for alias in node.names] + module_names(source)
    for name in sorted(set(names)):
        if names.count(name) > 1:
            yield source.at(source.tree), f"{name} is bound twice"
    for at, node in enumerate(source.tree.body):
        if isinstance(node, (ast.ImportFrom, ast.FunctionDef, ast.ClassDef)):
            continue
        if isinstance(node, ast.Expr) and at == 0 and node.value in source.docstrings():
            continue
        if isinstance(node, ast.Assign) and len(node.targets) == 1 and isinstance(node.targets[0], ast.Name):
            if is_plain(node.value) and not isinstance(node.value, ast.Name):
                if not holds_list(node.value):
                    continue
        yield source.at(node), "a statement that may not stand at module level"


def holds_list(node):
    """Whether a literal list, dict or tuple contains a list or dict."""
    return any(isinstance(part, (ast.List, ast.Dict)) for part in ast.walk(node) if part is not node)


def check_functions(source, sources):
    """L4 no decorators but those of methods, plain default values, no annotations (L21)."""
    for node in source.nodes(ast.FunctionDef):
        for decorator in node.decorator_list:
            text = ast.unparse(decorator)
            if text not in ("property", "staticmethod", "classmethod") and not text.endswith(".setter"):
                yield source.at(node), f"the decorator {text}"
            if not isinstance(source.parents[node], ast.ClassDef):
                yield source.at(node), "a decorator over what is no method"
        if node.returns is not None or [arg for arg in ast.walk(node.args) if getattr(arg, "annotation", None)]:
            yield source.at(node), "an annotation"
    for node in source.nodes(*FUNCTIONS):
        for default in [*node.args.defaults, *filter(None, node.args.kw_defaults)]:
            if not is_plain(default) or isinstance(default, (ast.List, ast.Dict, ast.Name)):
                yield source.at(node), "a default value that is not plain"


def check_classes(source, sources):
    """L5 classes at module level (L15), of methods and class values, with the allowed double-underscore methods."""
    for node in source.nodes(ast.ClassDef):
        if source.parents[node] is not source.tree or node.decorator_list or node.keywords:
            yield source.at(node), "a class within other code, with a decorator or with keywords"
        names = [part.name for part in node.body if isinstance(part, ast.FunctionDef) and not part.decorator_list]
        for name in sorted(set(names)):
            if names.count(name) > 1:
                yield source.at(node), f"{name} is defined twice"
            if name.startswith("__") and name.strip("_") not in DUNDERS:
                yield source.at(node), f"the method {name}"
        if "__getitem__" in names and "__iter__" not in names:
            yield source.at(node), "an index without __iter__"
        for part in node.body:
            is_value = isinstance(part, ast.Assign) and is_plain(part.value)
            is_docstring = isinstance(part, ast.Expr) and part.value in source.docstrings()
            if not (isinstance(part, (ast.FunctionDef, ast.Pass)) or is_value or is_docstring):
                yield source.at(part), "a statement that may not stand in a class"
    for node in source.nodes(ast.FunctionDef):
        if node.name.startswith("__") and not isinstance(source.parents[node], ast.ClassDef):
            yield source.at(node), f"{node.name} outside of a class"


def check_method_names(source, sources):
    """L18 no name that is a method and an attribute in one class."""
    for node in source.nodes(ast.ClassDef):
        methods = {part.name for part in node.body if isinstance(part, ast.FunctionDef)}
        stored = {part.attr for part in ast.walk(node) if isinstance(part, ast.Attribute)
                  and isinstance(part.ctx, ast.Store) and isinstance(part.value, ast.Name) and part.value.id == "self"}
        plain = {part.name for part in node.body if isinstance(part, ast.FunctionDef) and part.decorator_list}
        for name in sorted(methods & stored - plain):
            yield source.at(node), f"{name} is a method and an attribute"


def check_operators(source, sources):
    """L5 operators and properties modify nothing that they did not create, and have the parameters that they need."""
    for node in source.nodes(ast.FunctionDef):
        if not is_operator(node) or node.name == "__setitem__":
            continue
        if len(node.args.args) != 1 + (node.name in TWO_SIDED) or node.args.defaults or node.args.vararg or node.args.kwarg:
            yield source.at(node), f"the parameters of {node.name}"
        for part in ast.walk(node):
            if isinstance(part, (ast.Attribute, ast.Subscript)) and not isinstance(part.ctx, ast.Load):
                yield source.at(part), f"{node.name} assigns an attribute or an item"
            if isinstance(part, ast.Call) and isinstance(part.func, ast.Attribute) and part.func.attr in CHANGING:
                yield source.at(part), f"{node.name} calls {part.func.attr}"
    for node in source.nodes(ast.Name):
        if node.id == "NotImplemented":
            functions = [part for part in source.nodes(ast.FunctionDef) if node in ast.walk(part)]
            is_returned = isinstance(source.parents[node], ast.Return)
            if not is_returned or not [part for part in functions if part.name in TWO_SIDED | {"__eq__"}]:
                yield source.at(node), "NotImplemented that is not returned by an operator"


def is_operator(node):
    """Whether a function is an operator's method or a property."""
    return node.name in TWO_SIDED | ONE_SIDED or "property" in [ast.unparse(part) for part in node.decorator_list]


def check_families(source, sources):
    """L5 no class with a base class or a subclass has `<` and `>`, or `<=` and `>=`; none stores what is a property."""
    properties = {node.name for file in sources for node in file.nodes(ast.FunctionDef) if node.decorator_list}
    for node in source.nodes(ast.Attribute):
        if isinstance(node.ctx, ast.Store) and node.attr in properties:
            yield source.at(node), f"{node.attr} is a property of a class, and is assigned"
    bases = {ast.unparse(base) for file in sources for node in file.nodes(ast.ClassDef) for base in node.bases}
    for node in source.nodes(ast.ClassDef):
        names = {part.name for part in node.body if isinstance(part, ast.FunctionDef)}
        if (node.bases or node.name in bases) and ({"__lt__", "__gt__"} <= names or {"__le__", "__ge__"} <= names):
            yield source.at(node), "both sides of an order in a family of classes"


def check_sorted(source, sources):
    """L5 beside a class with an order `sorted`, `min` and `max` take what is plainly numbers or strings."""
    if not own_methods(sources) & {"__lt__", "__le__", "__gt__", "__ge__"}:
        return
    for node in source.nodes(ast.Call):
        if called_name(node) in ("sorted", "min", "max") and not any(map(is_plainly_number_or_string, node.args)):
            if not (isinstance(node.args[0], ast.ListComp) and is_plainly_number_or_string(node.args[0].elt)):
                yield source.at(node), f"{called_name(node)} of what may be anything"


def is_plainly_number_or_string(node):
    if isinstance(node, ast.Call):
        return called_name(node) in ("len", "int", "ord", "str", "repr")
    return isinstance(node, (ast.Constant, ast.JoinedStr))


def check_finally(source, sources):
    """L6 a `finally` only assigns names and attributes, perhaps where one is None or not None."""
    for node in source.nodes(ast.Try):
        left = list(node.finalbody)
        while left:
            part = left.pop()
            if isinstance(part, ast.If) and re.fullmatch(r"[\w.]+ is (not )?None", ast.unparse(part.test)):
                left.extend(part.body + part.orelse)
            elif isinstance(part, ast.Assign):
                sides = [*part.targets, part.value]
                if not all(isinstance(side, (ast.Name, ast.Attribute, ast.Constant)) for side in sides):
                    yield source.at(part), "an assignment that may not stand in a finally"
            elif not isinstance(part, ast.Pass):
                yield source.at(part), "a statement that may not stand in a finally"


def check_statements(source, sources):
    """L6 only the allowed statements."""
    for node in source.nodes(ast.stmt):
        if not isinstance(node, STATEMENTS):
            yield source.at(node), f"the statement {type(node).__name__}"
        if isinstance(node, ast.Expr) and not isinstance(node.value, (ast.Call, ast.Yield, ast.YieldFrom)):
            if node.value not in source.docstrings():
                yield source.at(node), "an expression on its own"
    for node in source.nodes(ast.Assert):
        if isinstance(node.test, ast.Tuple):
            yield source.at(node), "a tuple in an assert"


def check_errors(source, sources):
    """L19 errors are caught by name and raised on the spot."""
    own = own_names(sources, (ast.ClassDef,))
    for node in source.nodes(ast.ExceptHandler):
        kinds = node.type.elts if isinstance(node.type, ast.Tuple) else [node.type]
        for kind in kinds:
            if not isinstance(kind, ast.Name) or kind.id not in CAUGHT | own:
                yield source.at(node), "a handler for what may not be caught"
        if not kinds:
            yield source.at(node), "a handler for nothing"
    for node in source.nodes(ast.Raise):
        if node.exc is None:
            if not source.is_inside(node, ast.ExceptHandler):
                yield source.at(node), "a bare raise outside of a handler"
        elif not (isinstance(node.exc, ast.Call) and isinstance(node.exc.func, ast.Name)
                  and node.exc.func.id in own | BUILTINS):
            yield source.at(node), "raises what is not created on the spot"


def check_values(source, sources):
    """L7 no floats, no `/`, no sets at module level, no other expressions."""
    for node in source.nodes(ast.BinOp, ast.AugAssign):
        if not isinstance(node.op, OPERATORS):
            yield source.at(node), f"the operator {type(node.op).__name__}"
    for node in source.nodes(ast.Constant):
        if isinstance(node.value, (float, complex)) or node.value is ...:
            yield source.at(node), f"the value {node.value!r}"
    for node in source.nodes(ast.Await, *COMPREHENSIONS):
        if isinstance(node, ast.Await) or not source.is_inside(node, FUNCTIONS):
            yield source.at(node), "an expression that may not stand here"
    compares = "__eq__" in own_methods(sources)
    for node in source.nodes(ast.GeneratorExp):
        parent = source.parents[node]
        name = called_name(parent) if isinstance(parent, ast.Call) and node in parent.args else None
        allowed = {"list", "tuple", "dict", "join"}
        if not compares:
            allowed |= {"sorted", "sum", "min", "max", "any", "all"}
        if name not in allowed:
            yield source.at(node), "a generator expression that does not stand in a call that takes it"


def called_name(node):
    """The name of the function or method that is called."""
    if isinstance(node.func, ast.Name):
        return node.func.id
    return node.func.attr if isinstance(node.func, ast.Attribute) else None


def check_builtins(source, sources):
    """L8 no other builtins."""
    for node in source.nodes(ast.Name):
        if node.id in dir(builtins) and node.id not in BUILTINS:
            yield source.at(node), f"the builtin {node.id}"
        if node.id in ("chr", "bytes", "frozenset", "print", "hasattr", "getattr", "setattr"):
            yield source.at(node), f"the builtin {node.id}, which the package does not need"


def check_sizes(source, sources):
    """L10 at most 399 lines in a file, 40 in a function, 120 characters in a line; no tabs."""
    lines = source.text.split("\n")
    if len(lines) - 1 > 399:
        yield source.at(source.tree), "a file of more than 399 lines"
    for at, line in enumerate(lines):
        if len(line) > 120 or "\t" in line:
            yield f"{source.name}.py:{at + 1}", "a line of more than 120 characters, or with a tab"
    for node in source.nodes(ast.FunctionDef):
        if node.end_lineno - node.lineno + 1 > 40:
            yield source.at(node), f"{node.name} has more than 40 lines"


def bound_names(source):
    """(node, name) of all names that the file binds or uses as such, attributes and keywords left out."""
    found = [(node, node.id) for node in source.nodes(ast.Name)]
    found.extend([(node, node.arg) for node in source.nodes(ast.arg)])
    found.extend([(node, node.name) for node in source.nodes(ast.FunctionDef, ast.ClassDef)])
    found.extend([(node, node.name) for node in source.nodes(ast.ExceptHandler, ast.MatchAs, ast.MatchStar) if node.name])
    found.extend([(node, alias.name) for node in source.nodes(ast.ImportFrom) for alias in node.names])
    return found


def check_names(source, sources):
    """L12 plain names."""
    attributes = [(node, node.attr) for node in source.nodes(ast.Attribute)]
    for node, name in bound_names(source) + attributes:
        if name.startswith("__"):
            if name.strip("_") not in DUNDERS and name not in ("__class__", "__name__"):
                yield source.at(node), f"the name {name}"
        elif not re.fullmatch(r"_|_?[A-Za-z][A-Za-z0-9_]*", name):
            yield source.at(node), f"the name {name}"
        elif re.match(r"_(wall|pe_|dcw_|enum_|cm_|twin_re_|lay_|law_|stub_|sre|WallAttr|cold|tuplegetter|outside|record"
                      r"|written_out|member_names)", name):
            yield source.at(node), f"the name {name}"
    for node in source.nodes(ast.Name):
        if node.id == "_" and isinstance(node.ctx, ast.Load):
            yield source.at(node), "_ is read"
    if re.search(r"_wall\b|_WallAttr", source.text):
        yield source.at(source.tree), "a word that may not stand in a file"


def check_sets(source, sources):
    """L24 sets stand beside `in`, `==`, in len and sorted, or are assigned; L13 for their literals."""
    for node in source.nodes(ast.Set, ast.SetComp, ast.Call):
        if isinstance(node, ast.Call) and called_name(node) != "set":
            continue
        parent = source.parents[node]
        is_measured = isinstance(parent, ast.Call) and called_name(parent) in ("len", "sorted")
        is_stored = isinstance(parent, ast.Assign) and isinstance(parent.targets[0], ast.Name)
        if not (is_measured or is_stored or isinstance(parent, (ast.Compare, ast.BinOp))):
            yield source.at(node), "a set that stands where it may not"
    for node in source.nodes(ast.Set):
        if len([item for item in node.elts if isinstance(item, ast.Constant) and isinstance(item.value, int)]) > 2:
            yield source.at(node), "a set of more than two integers"


def check_characters(source, sources):
    """L14 characters from the space to `~` and line feeds."""
    for at, line in enumerate(source.text.split("\n")):
        if [sign for sign in line if not " " <= sign <= "~"]:
            yield f"{source.name}.py:{at + 1}", "a character beyond `~`"


def check_shadows(source, sources):
    """L15 no name of a builtin, a class or an import for anything else."""
    taken = {alias.name for node in source.nodes(ast.ImportFrom) for alias in node.names}
    taken |= {node.name for node in source.nodes(ast.ClassDef)}
    nested = [(node, node.name) for node in source.nodes(ast.FunctionDef)
              if not isinstance(source.parents[node], (ast.ClassDef, ast.Module))]
    stored = [(node, node.id) for node in source.nodes(ast.Name) if not isinstance(node.ctx, ast.Load)]
    local = stored + [(node, node.arg) for node in source.nodes(ast.arg)] + nested
    local += [(node, node.name) for node in source.nodes(ast.ExceptHandler, ast.MatchAs, ast.MatchStar) if node.name]
    for node, name in local:
        if name in taken or name in dir(builtins):
            yield source.at(node), f"{name} is the name of something else"
    for node in source.nodes(ast.FunctionDef, ast.ClassDef):
        if node.name in BUILTINS or (node.name in dir(builtins) and source.parents[node] is source.tree):
            yield source.at(node), f"{node.name} is the name of a builtin"


def check_barred_names(source, sources):
    """L17 names and words that are not used."""
    attributes = [(node, node.attr) for node in source.nodes(ast.Attribute)]
    keywords = [(node.value, node.arg) for node in source.nodes(ast.keyword) if node.arg]
    for node, name in bound_names(source) + attributes + keywords:
        if name in BARRED_EVERYWHERE:
            yield source.at(node), f"the name {name}"
    for node, name in bound_names(source):
        if name in BARRED_NAMES:
            yield source.at(node), f"the name {name}"
    documented = [(node.lineno, node.col_offset) for node in source.docstrings()]
    for token in tokenize.generate_tokens(io.StringIO(source.text).readline):
        if token.type == tokenize.COMMENT or token.start in documented:
            continue
        if set(re.findall(r"\w+", token.string)) & BARRED_WORDS or any(part in token.string for part in BARRED_PARTS):
            yield f"{source.name}.py:{token.start[0]}", f"the word {token.string}"
    if re.search(r"\(type\)|Meta|metaclass=", source.text):
        yield source.at(source.tree), "`(type)` or `Meta`"


def check_is(source, sources):
    """L20 `is` with None, True and False."""
    for node in source.nodes(ast.Compare):
        for operator, other in zip(node.ops, node.comparators):
            if isinstance(operator, (ast.Is, ast.IsNot)):
                if not (isinstance(other, ast.Constant) and other.value in (None, True, False)):
                    yield source.at(node), "`is` beside another value"


def check_calls(source, sources):
    """L22 keywords only where a builtin or a method of a builtin value takes them."""
    known = {"sorted": {"key", "reverse"}, "min": {"key", "default"}, "max": {"key", "default"}, "sum": {"start"},
             "enumerate": {"start"}, "zip": {"strict"}, "sort": {"key", "reverse"}}
    methods = own_methods(sources)
    for node in source.nodes(ast.Call):
        name = called_name(node)
        keywords = {keyword.arg for keyword in node.keywords}
        if name in BUILTINS or (isinstance(node.func, ast.Attribute) and name in METHODS and name not in methods):
            if not keywords <= known.get(name, set()):
                yield source.at(node), f"keywords of {name}"


def check_iterated(source, sources):
    """L23 zip, enumerate, range, map and the views of dicts are iterated at once."""
    for node in source.nodes(ast.Call):
        if called_name(node) not in ITERATED:
            continue
        parent = source.parents[node]
        is_loop = isinstance(parent, (ast.For, ast.comprehension)) and parent.iter is node
        is_passed = isinstance(parent, ast.Call) and node in parent.args and called_name(parent) in ITERATORS
        is_tested = isinstance(parent, ast.Compare) and isinstance(parent.ops[0], (ast.In, ast.NotIn))
        if not (is_loop or is_passed or is_tested):
            yield source.at(node), f"{called_name(node)} that is not iterated at once"


def generators(sources):
    """The names of all functions and methods that yield."""
    return {node.name for source in sources for node in source.nodes(ast.FunctionDef) if yields(node)}


def yields(function):
    """Whether a function yields by itself, not only in a function that is nested in it."""
    left = list(function.body)
    while left:
        node = left.pop()
        if isinstance(node, (ast.Yield, ast.YieldFrom)):
            return True
        if not isinstance(node, FUNCTIONS):
            left.extend(ast.iter_child_nodes(node))
    return False


def check_generators(source, sources):
    """L23 generators are iterated at once, beside plain arguments, and yield in statements of their own."""
    names = generators(sources)
    for node in source.nodes(ast.Yield, ast.YieldFrom):
        if not isinstance(source.parents[node], ast.Expr) or source.is_inside(node, (ast.Try, ast.With)):
            yield source.at(node), "a yield that is no statement of its own, or under a try"
    for node in source.nodes(ast.FunctionDef):
        same = [other for file in sources for other in file.nodes(ast.FunctionDef) if other.name == node.name]
        if yields(node) and (len(same) > 1 or node.decorator_list or node.name.startswith("__") or node.name in METHODS):
            yield source.at(node), f"the generator {node.name} has the name of something else"
        if yields(node) and [part for part in ast.walk(node) if isinstance(part, ast.Return) and part.value]:
            yield source.at(node), f"the generator {node.name} returns something"
    for node in source.nodes(ast.Name, ast.Attribute):
        name = node.id if isinstance(node, ast.Name) else node.attr
        if name not in names:
            continue
        call = source.parents[node]
        if not isinstance(call, ast.Call) or call.func is not node:
            yield source.at(node), f"the generator {name} as a value"
            continue
        parent = source.parents[call]
        is_loop = isinstance(parent, (ast.For, ast.comprehension)) and parent.iter is call
        is_passed = isinstance(parent, ast.Call) and called_name(parent) in ITERATORS - {"len", "reversed"}
        if not (is_loop or is_passed or isinstance(parent, ast.YieldFrom)):
            yield source.at(node), f"the generator {name} that is not iterated at once"
        if not all(isinstance(part, (ast.Name, ast.Attribute, ast.Constant, ast.Lambda)) for part in call.args):
            yield source.at(node), f"the generator {name} beside what is no name, attribute, literal or lambda"


def check_lambdas(source, sources):
    """L13 no two lambdas with the same parameters on one line."""
    found = [(node.lineno, ast.unparse(node.args)) for node in source.nodes(ast.Lambda)]
    for place in sorted(set(found)):
        if found.count(place) > 1:
            yield f"{source.name}.py:{place[0]}", "two lambdas with the same parameters"


def check_targets(source, sources):
    """L18 attributes are assigned through a local name, items of what stands at module level are not."""
    names = set(module_names(source)) | {alias.name for node in source.nodes(ast.ImportFrom) for alias in node.names}
    for node in source.nodes(ast.Attribute, ast.Subscript):
        if isinstance(node.ctx, ast.Load):
            continue
        root = node.value
        while isinstance(root, (ast.Attribute, ast.Subscript)):
            if isinstance(root, ast.Subscript) and isinstance(node, ast.Attribute):
                yield source.at(node), "an attribute of an item is assigned"
            root = root.value
        if not isinstance(root, ast.Name) or root.id in names:
            yield source.at(node), "an attribute or an item is assigned that belongs to no local name"


def check_module_values(source, sources):
    """L15 lists and dicts at module level are only read."""
    names = [node.targets[0].id for node in source.tree.body
             if isinstance(node, ast.Assign) and isinstance(node.value, (ast.List, ast.Dict))]
    for node in source.nodes(ast.Name):
        if node.id not in names or isinstance(node.ctx, ast.Store):
            continue
        parent = source.parents[node]
        is_read = isinstance(parent, (ast.Subscript, ast.Compare, ast.For, ast.comprehension))
        is_asked = isinstance(parent, ast.Attribute) and parent.attr not in CHANGING
        is_copied = isinstance(parent, ast.Call) and called_name(parent) in ("list", "dict", "len", "sorted", "tuple")
        if not (is_read or is_asked or is_copied):
            yield source.at(node), f"{node.id} is handed on"


def check_stars(source, sources):
    """L7 calls with stars: behind the star names and attributes, never with builtins but `max`, `min` and `zip`."""
    for node in source.nodes(ast.Call):
        stars = [part.value for part in node.args if isinstance(part, ast.Starred)]
        stars += [part.value for part in node.keywords if part.arg is None]
        if not stars:
            continue
        if called_name(node) in BUILTINS - {"max", "min", "zip"} | METHODS | CAUGHT:
            yield source.at(node), f"a star in a call of {called_name(node)}"
        if not all(isinstance(part, (ast.Name, ast.Attribute, ast.Constant)) for part in stars):
            yield source.at(node), "a star before what is no name and no attribute"


def check_nested(source, sources):
    """L4 functions within functions, and lambdas, do not assign to variables around them; no `nonlocal` is needed."""
    for node in source.nodes(ast.Nonlocal, ast.Global):
        yield source.at(node), "a variable of another function is assigned"


def check_methods(source, sources):
    """L25 only the listed methods of builtin values, and own ones."""
    own = own_methods(sources)
    for node in source.nodes(ast.Call):
        if isinstance(node.func, ast.Attribute) and node.func.attr not in METHODS | own:
            yield source.at(node), f"the method {node.func.attr}"
        if isinstance(node.func, ast.Attribute) and node.func.attr == "sort" and own & {"__eq__", "__len__"}:
            yield source.at(node), "a .sort() beside a class that compares"


def check_own_attributes(source, sources):
    """L26 no attributes and methods with names that builtin values have."""
    barred = {name for value in ("", 0, [], {}, set(), b"") for name in dir(value)} - METHODS
    attributes = set("""items keys values pop update append clear extend insert remove reverse setdefault sort args
    encode decode hex fromhex format format_map mro""".split())
    for node in source.nodes(ast.ClassDef):
        for part in node.body:
            if isinstance(part, ast.FunctionDef) and part.name in barred and part.name.strip("_") not in DUNDERS:
                yield source.at(part), f"the method {part.name}"
    for node in source.nodes(ast.Attribute):
        if isinstance(node.ctx, ast.Store) and node.attr in attributes | barred:
            yield source.at(node), f"the attribute {node.attr}"


def check_strings(source, sources):
    """L27 no `%` in strings, plain escapes, exponents that are small literals."""
    documented = source.docstrings()
    for node in source.nodes(ast.Constant):
        if isinstance(node.value, str) and node not in documented:
            if "%" in node.value or node.value.endswith(("._", ".__")) or re.fullmatch(r"__.*__", node.value):
                yield source.at(node), f"the string {node.value!r}"
    for token in tokenize.generate_tokens(io.StringIO(source.text).readline):
        if token.type == tokenize.STRING and re.search(r"(?<!\\)(\\\\)*\\[^nt\\'\"]", token.string):
            yield f"{source.name}.py:{token.start[0]}", "an escape"
    for node in source.nodes(ast.BinOp):
        if isinstance(node.op, ast.Pow) and not isinstance(node.right, ast.Constant):
            yield source.at(node), "an exponent that is no literal"


def check_equality(source, sources):
    """L28 __eq__ asks for the class first, __len__ returns len(..), __init__ returns nothing."""
    for node in source.nodes(ast.FunctionDef):
        body = [part for part in node.body if not isinstance(part, ast.Expr)]
        returned = [part.value for part in ast.walk(node) if isinstance(part, ast.Return)]
        if node.name == "__eq__":
            text = ast.unparse(body[0])
            name = source.parents[node].name
            if not (text.startswith(f"return isinstance(other, {name}) and ")
                    or text.startswith(f"if not isinstance(other, {name})")):
                yield source.at(node), "__eq__ does not ask for the class first"
        if node.name == "__len__" and not all(ast.unparse(value).startswith("len(") for value in returned):
            yield source.at(node), "__len__ returns something else than len(..)"
        if node.name == "__init__" and returned:
            yield source.at(node), "__init__ returns something"


CHECKS = [check_files, check_imports, check_cycles, check_module_level, check_functions, check_classes,
          check_method_names, check_statements, check_errors, check_values, check_builtins, check_sizes, check_names,
          check_sets, check_characters, check_shadows, check_barred_names, check_is, check_calls, check_iterated,
          check_methods, check_own_attributes, check_strings, check_equality, check_generators, check_lambdas,
          check_targets, check_module_values, check_stars, check_nested, check_operators, check_families, check_sorted,
          check_finally]
