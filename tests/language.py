"""Holds the files of a package against those rules of LANGUAGE.md that can be seen in their text.

The rules that have a best form (L21 annotations, L28 methods with two underscores) are held to that form.
The program has no __main__.py, so nothing of what such a file may do is let through.
"""

import ast
import builtins
import re

FUNCTIONS = (
    "len range enumerate zip min max sum abs sorted reversed int str bool list tuple dict set frozenset "
    "isinstance ord repr any all divmod"
).split()
ERRORS = (
    "Exception ValueError TypeError KeyError IndexError LookupError ZeroDivisionError ArithmeticError "
    "OverflowError RuntimeError NotImplementedError AttributeError StopIteration"
).split()
METHODS = (
    "append clear copy count endswith extend find get index insert isalnum isalpha isdigit islower isspace "
    "isupper items join keys ljust lower lstrip partition pop remove replace reverse rfind rjust rpartition "
    "rsplit rstrip setdefault split splitlines startswith strip update upper values zfill bit_length"
).split()
CHANGES = "append clear extend insert pop remove reverse setdefault update".split()
VALUES = "count index title find get join lower upper split strip copy add".split()
NOWHERE = "register mro elements open input version_info with_traceback add_note".split()
NO_NAMES = (
    "attrgetter breakpoint builtins compile copyright credits delattr dir eval exec exit gc getattr globals "
    "hasattr help id importlib license locals methodcaller os quit setattr super type vars sys __name__"
).split()
NO_WORDS = (
    "type typing typing_extensions enum Enum IntEnum StrEnum Flag IntFlag Generic Protocol ABC ABCMeta "
    "namedtuple NamedTuple TypedDict TYPE_CHECKING abstractmethod"
).split()
NO_PARTS = ("dataclass", "overload", "contextmanager")
NO_FILES = ["test", "tests", "testing", "site", "conftest", "sitecustomize", "usercustomize"] + NO_WORDS
FRAME = re.compile(r"(f|tb|co|gi|cr|ag)_[a-z]+$")
PYTHONS = [name for name in dir(builtins) if not name.startswith("_")]
OWN_VALUES = sorted({name for kind in (str, int, list, tuple, dict, set, bytes) for name in dir(kind)})
KEYWORDS = {
    "sorted": ("key", "reverse"), "min": ("key", "default"), "max": ("key", "default"), "sum": ("start",),
    "enumerate": ("start",), "zip": ("strict",),
}
KEYS = "len int str abs sum min max tuple".split()
WALKERS = "zip enumerate reversed range".split()
WALKED_IN = "list tuple dict sorted sum any all enumerate zip".split()
STATEMENTS = (
    ast.Assign, ast.AugAssign, ast.AnnAssign, ast.If, ast.While, ast.For, ast.Return, ast.Break, ast.Continue,
    ast.Pass, ast.Raise, ast.Try, ast.Expr, ast.FunctionDef, ast.ClassDef, ast.ImportFrom, ast.Import,
)
EXPRESSIONS = (
    ast.Constant, ast.List, ast.Tuple, ast.Dict, ast.Set, ast.BinOp, ast.BoolOp, ast.UnaryOp, ast.Compare,
    ast.IfExp, ast.Call, ast.Attribute, ast.Subscript, ast.Slice, ast.ListComp, ast.Lambda, ast.Name,
    ast.JoinedStr, ast.FormattedValue,
)
SCOPES = (ast.FunctionDef, ast.Lambda)


class Source:
    def __init__(self, name, text):
        self.name = name
        self.text = text
        self.tree = ast.parse(text)
        self.nodes = list(ast.walk(self.tree))
        self.parent = {child: node for node in self.nodes for child in ast.iter_child_nodes(node)}
        self.defs = self.each(ast.FunctionDef)
        self.classes = self.each(ast.ClassDef)
        self.imports = [alias.name for node in self.each(ast.ImportFrom) for alias in node.names]

    def each(self, *kinds):
        return [node for node in self.nodes if isinstance(node, kinds)]

    def above(self, node, kinds):
        while node in self.parent:
            node = self.parent[node]
            if isinstance(node, kinds):
                return node
        return None

    def methods(self):
        return [d for d in self.defs if isinstance(self.parent[d], ast.ClassDef)]

    def values(self):
        return [n for n in self.each(ast.Attribute) if isinstance(n.ctx, ast.Store)]

    def top_names(self):
        names = []
        for node in self.tree.body:
            if isinstance(node, (ast.FunctionDef, ast.ClassDef)):
                names.append(node.name)
            if isinstance(node, ast.Assign):
                names.extend(t.id for t in node.targets if isinstance(t, ast.Name))
            if isinstance(node, ast.ImportFrom):
                names.extend(alias.name for alias in node.names)
        return names


def called(node):
    """The name by which a call is called, be it a function's or a method's."""
    if isinstance(node, ast.Call):
        if isinstance(node.func, ast.Name):
            return node.func.id
        if isinstance(node.func, ast.Attribute):
            return "." + node.func.attr
    return None


def is_plain(node):
    if isinstance(node, ast.UnaryOp) and isinstance(node.op, ast.USub):
        return isinstance(node.operand, ast.Constant)
    if isinstance(node, (ast.List, ast.Tuple)):
        return all(is_plain(part) for part in node.elts)
    if isinstance(node, ast.Dict):
        return all(is_plain(part) for part in node.keys + node.values)
    return isinstance(node, (ast.Constant, ast.Name))


def is_docstring(source, node):
    above = source.parent[node]
    return isinstance(above, ast.Module) and above.body[0] is node and isinstance(node.value, ast.Constant)


def look_at_text(source):
    lines = source.text.split("\n")
    if len(source.text.splitlines()) > 400:
        yield "L10", 401, "a file of more than 400 lines"
    for number, line in enumerate(lines, start=1):
        if len(line) > 120:
            yield "L10", number, "a line of more than 120 characters"
        if "\t" in line:
            yield "L10", number, "a tab"
        if re.search(r"[^\t -~]", line):
            yield "L14", number, "a sign that is none from the blank to ~"
        for word in re.findall(r"\w+", line):
            if word in NO_WORDS or any(part in word for part in NO_PARTS):
                yield "L17", number, "the word " + word
    for node in source.nodes:
        is_text = isinstance(node, ast.Constant) and isinstance(node.value, str)
        if isinstance(source.parent.get(node), ast.JoinedStr):
            continue
        if is_text or isinstance(node, ast.JoinedStr):
            written = ast.get_source_segment(source.text, node)
            if "%" in written:
                yield "L27", node.lineno, "a text with the sign %"
            if re.search(r"\\[^nt\\'\"]", written):
                yield "L27", node.lineno, "a text with another escape"


def look_at_top(source):
    for k, node in enumerate(source.tree.body):
        if isinstance(node, (ast.FunctionDef, ast.ClassDef, ast.ImportFrom)):
            continue
        if isinstance(node, ast.Expr) and k == 0 and is_docstring(source, node):
            continue
        if isinstance(node, ast.Assign) and is_plain(node.value):
            parts = [part for part in ast.walk(node.value) if isinstance(part, (ast.List, ast.Dict))]
            if [part for part in parts if part is not node.value]:
                yield "L15", node.lineno, "a list or dict within a value of the top"
            continue
        yield "L3", node.lineno, "something else at the top"
    names = source.top_names()
    for name in sorted(set(names)):
        if names.count(name) > 1:
            yield "L15", 1, name + " is bound more than once"
    for node in source.classes:
        if not isinstance(source.parent[node], ast.Module):
            yield "L15", node.lineno, "a class that is not at the top"


def look_at_tables(source):
    """A list or dict of a file's top is only read, and handed on as a copy alone (L15)."""
    tables = [
        node.targets[0].id for node in source.tree.body
        if isinstance(node, ast.Assign) and isinstance(node.targets[0], ast.Name)
        and isinstance(node.value, (ast.List, ast.Dict))
    ]
    for node in source.each(ast.Name):
        above = source.parent[node]
        if node.id not in tables or isinstance(node.ctx, ast.Store):
            continue
        is_read = isinstance(above, ast.Subscript) and above.value is node and isinstance(above.ctx, ast.Load)
        is_walk = isinstance(above, (ast.For, ast.comprehension)) and above.iter is node
        is_asked = isinstance(above, ast.Compare) or called(above) in FUNCTIONS
        is_got = isinstance(above, ast.Attribute) and above.attr in "get items keys values index count copy".split()
        if not (is_read or is_walk or is_asked or is_got):
            yield "L15", node.lineno, node.id + " is not only read"


def look_at_imports(source, package):
    for node in source.each(ast.Import):
        yield "L16", node.lineno, "an import that is not from a file"
    for node in source.each(ast.ImportFrom):
        if not isinstance(source.parent[node], ast.Module):
            yield "L2", node.lineno, "an import that is not at the top"
        if node.level or not (node.module or "").startswith(package + "."):
            yield "L2", node.lineno, "an import from elsewhere"
        if [alias for alias in node.names if alias.name == "*" or alias.asname]:
            yield "L2", node.lineno, "an import of all, or by another name"


def look_at_defs(source):
    for node in source.each(*SCOPES):
        args = node.args
        if args.vararg or args.kwarg or args.kwonlyargs or args.posonlyargs:
            yield "L4", node.lineno, "a parameter that is not plain"
        if not all(is_plain(value) for value in args.defaults):
            yield "L4", node.lineno, "a default that is not plain"
        if [arg for arg in args.args if arg.annotation]:
            yield "L21", node.lineno, "an annotation"
    for node in source.defs:
        if node.decorator_list:
            yield "L4", node.lineno, "a decorator"
        if node.end_lineno - node.lineno + 1 > 40:
            yield "L10", node.lineno, "a function of more than 40 lines"
        if node.returns:
            yield "L21", node.lineno, "an annotation"
        if node.name == "__init__":
            for part in ast.walk(node):
                if isinstance(part, ast.Return) and part.value:
                    yield "L28", part.lineno, "__init__ gives something back"
    lines = {}
    for node in source.each(ast.Lambda):
        lines.setdefault((node.lineno, tuple(arg.arg for arg in node.args.args)), []).append(node)
    for line, names in sorted(lines):
        if len(lines[line, names]) > 1:
            yield "L13", line, "two lambdas with the same parameters"


def look_at_classes(source):
    for node in source.classes:
        if node.decorator_list or node.keywords or len(node.bases) > 1:
            yield "L5", node.lineno, "a class that is not plain"
        for base in node.bases:
            if not isinstance(base, ast.Name) or base.id in ("StopIteration", "AttributeError"):
                yield "L18", node.lineno, "a base that is not allowed"
            elif base.id in PYTHONS and base.id not in ERRORS:
                yield "L5", node.lineno, "a base of Python's own"
        names = [part.name for part in node.body if isinstance(part, ast.FunctionDef)]
        if len(names) != len(set(names)):
            yield "L18", node.lineno, "a method that stands twice"
        for part in node.body:
            if not isinstance(part, (ast.FunctionDef, ast.Pass)):
                yield "L5", part.lineno, "something else in a class body"
        for name in names:
            if name.startswith("__") and name != "__init__":
                yield "L28", node.lineno, "the method " + name


def look_at_statements(source):
    for node in source.each(ast.stmt):
        if not isinstance(node, STATEMENTS):
            yield "L6", node.lineno, "a statement that is not used"
        if isinstance(node, ast.Expr) and not isinstance(node.value, ast.Call) and not is_docstring(source, node):
            yield "L6", node.lineno, "an expression by itself"
        if isinstance(node, (ast.For, ast.While)) and node.orelse:
            yield "L6", node.lineno, "an else behind a loop"
        if isinstance(node, ast.Assign) and len(node.targets) > 1:
            yield "L6", node.lineno, "more than one target"
        if isinstance(node, ast.AnnAssign):
            yield "L21", node.lineno, "an annotation"
        if isinstance(node, ast.Try) and node.finalbody:
            yield "L6", node.lineno, "a finally"
        if isinstance(node, ast.Raise) and not isinstance(node.exc, ast.Call):
            yield "L19", node.lineno, "a raise that does not make its error on the spot"
    for node in source.each(ast.Try):
        for handler in node.handlers:
            yield from look_at_handler(node, handler)


def look_at_handler(node, handler):
    kinds = handler.type.elts if isinstance(handler.type, ast.Tuple) else [handler.type]
    names = [kind.id if isinstance(kind, ast.Name) else None for kind in kinds]
    if None in names:
        yield "L6", handler.lineno, "an except without a name"
    if [name for name in names if name in ERRORS and name not in
            ("KeyError", "ZeroDivisionError", "StopIteration", "ValueError", "LookupError", "IndexError")]:
        yield "L19", handler.lineno, "an error that is not taken"
    allowed = (None,)
    if "ValueError" in names or "LookupError" in names:
        allowed = ("int", "str", ".index", ".remove")
    elif "IndexError" not in names:
        return
    out = (ast.JoinedStr, ast.Slice, ast.Lambda, ast.Mult, ast.Pow, ast.Mod, ast.LShift, ast.RShift)
    for statement in node.body:
        for part in ast.walk(statement):
            if isinstance(part, out) or (isinstance(part, ast.Call) and called(part) not in allowed):
                yield "L19", statement.lineno, "more than is allowed in such a try"


def look_at_expressions(source):
    for node in source.each(ast.expr):
        if not isinstance(node, EXPRESSIONS):
            yield "L7", node.lineno, "an expression that is not used"
        if isinstance(node, ast.Constant) and not isinstance(node.value, (int, str, type(None))):
            yield "L7", node.lineno, "a value of another kind"
        if isinstance(node, ast.Constant) and isinstance(node.value, int) and node.value >= 10 ** 900:
            yield "L27", node.lineno, "a number of more than 900 digits"
        if isinstance(node, ast.Dict) and None in node.keys:
            yield "L7", node.lineno, "a star"
        if isinstance(node, ast.ListComp):
            parts = node.generators
            if len(parts) > 1 or len(parts[0].ifs) > 1 or parts[0].is_async:
                yield "L7", node.lineno, "a comprehension with more than one for or if"
        if isinstance(node, ast.FormattedValue):
            plain = isinstance(node.value, ast.Name) and node.conversion in (-1, ord("r"))
            if not plain or node.format_spec:
                yield "L7", node.lineno, "an f-string that is not plain"
        if isinstance(node, ast.Compare):
            yield from look_at_is(node)
    for node in source.each(ast.BinOp, ast.AugAssign):
        if isinstance(node.op, (ast.Div, ast.MatMult)):
            yield "L7", node.lineno, "an operator that is not used"
        if isinstance(node.op, ast.Pow):
            right = node.right if isinstance(node, ast.BinOp) else node.value
            if not isinstance(right, ast.Constant) or right.value not in range(65):
                yield "L27", node.lineno, "an exponent that is not written"


def look_at_is(node):
    sides = [node.left] + node.comparators
    for k, op in enumerate(node.ops):
        if isinstance(op, (ast.Is, ast.IsNot)):
            plain = [s.value for s in sides[k:k + 2] if isinstance(s, ast.Constant)]
            if not [value for value in plain if value is None or isinstance(value, bool)]:
                yield "L20", node.lineno, "is beside another value"


def bound_names(source):
    """Each name that is bound anywhere, with the line and whether it is a parameter or local."""
    for node in source.each(ast.Name):
        if isinstance(node.ctx, ast.Store):
            yield node.id, node.lineno, source.above(node, SCOPES + (ast.ListComp,)) is not None
    for node in source.each(ast.arg):
        yield node.arg, node.lineno, True
    for node in source.each(ast.ExceptHandler):
        if node.name:
            yield node.name, node.lineno, True
    for node in source.defs + source.classes:
        is_method = isinstance(source.parent[node], ast.ClassDef)
        yield node.name, node.lineno, None if is_method else not isinstance(source.parent[node], ast.Module)


def look_at_names(source):
    classes = [node.name for node in source.classes]
    bound = list(bound_names(source))
    for name, line, is_local in bound:
        if name == "__init__" and is_local is None:
            continue
        if name.startswith("_") and name not in ("__all__", "__version__"):
            yield "L12", line, "the name " + name
        if name in PYTHONS and is_local is not None:
            yield "L15", line, name + " is a name of Python's own"
        if name in NOWHERE + NO_NAMES or FRAME.match(name):
            yield "L17", line, "the name " + name
        if is_local and name in classes + source.imports:
            yield "L15", line, name + " is a class or import of its file"
    known = {name for name, line, is_local in bound} | set(source.imports)
    for node in source.each(ast.Name, ast.Attribute):
        name = node.id if isinstance(node, ast.Name) else node.attr
        if name in NOWHERE or FRAME.match(name) or name in ("format", "format_map"):
            yield "L17", node.lineno, "the name " + name
        if isinstance(node, ast.Attribute):
            if name.startswith("_") and name != "__init__":
                yield "L12", node.lineno, "the name " + name
            continue
        if name in NO_NAMES:
            yield "L17", node.lineno, "the name " + name
        elif name not in known and name not in FUNCTIONS + ERRORS:
            yield "L8", node.lineno, "the name " + name


def look_at_own_names_of_python(source):
    """Python's own functions and error classes are called where they stand (L18, L22)."""
    for node in source.each(ast.Name):
        above = source.parent[node]
        is_called = isinstance(above, ast.Call) and above.func is node
        if node.id in FUNCTIONS and not is_called:
            is_key = isinstance(above, ast.keyword) and above.arg == "key" and node.id in KEYS
            call = source.above(node, ast.Call)
            if not is_key and not (called(call) == "isinstance" and node in ast.walk(call.args[1])):
                yield "L22", node.lineno, node.id + " is kept as a value"
        if node.id in ERRORS + [c.name for c in source.classes] and not is_called:
            call = source.above(node, ast.Call)
            is_init = isinstance(above, ast.Attribute) and above.attr == "__init__"
            is_held = called(call) == "isinstance" and node in ast.walk(call.args[1])
            if not is_init and not is_held and not isinstance(above, (ast.ClassDef, ast.ExceptHandler)):
                if not (isinstance(above, ast.Tuple) and isinstance(source.parent[above], ast.ExceptHandler)):
                    yield "L18", node.lineno, node.id + " is kept as a value"
    for node in source.each(ast.Call):
        name = called(node) or ""
        if name in FUNCTIONS + ERRORS or name[1:] in METHODS:
            for keyword in node.keywords:
                if keyword.arg not in KEYWORDS.get(name, ()):
                    yield "L22", node.lineno, "a keyword at " + name


def is_walker(node):
    name = called(node)
    return name in WALKERS or (name in (".items", ".keys", ".values") and not node.args)


def is_walked(source, node):
    above = source.parent[node]
    if isinstance(above, (ast.For, ast.comprehension)):
        return above.iter is node
    if not isinstance(above, ast.Call) or node not in above.args:
        return False
    name = called(above)
    if name in WALKED_IN:
        return above.args[0] is node
    if name in ("min", "max"):
        return len(above.args) == 1
    return name == ".join" and isinstance(above.func.value, ast.Constant)


def walked_things(node):
    """What a loop walks, itself or through enumerate, zip, reversed, items and their like."""
    if called(node) in ("enumerate", "zip", "reversed"):
        return [thing for arg in node.args for thing in walked_things(arg)]
    if called(node) in (".items", ".keys", ".values"):
        return [ast.dump(node.func.value)]
    return [ast.dump(node)] if isinstance(node, (ast.Name, ast.Attribute, ast.Subscript)) else []


def as_read(node):
    return ast.dump(node).replace("Store()", "Load()")


def look_at_walks(source):
    for node in source.each(ast.Call):
        if is_walker(node) and not is_walked(source, node):
            yield "L23", node.lineno, called(node) + " is kept"
    for loop in source.each(ast.For):
        things = walked_things(loop.iter)
        for node in [part for statement in loop.body for part in ast.walk(statement)]:
            is_change = (called(node) or "")[1:] in CHANGES and ast.dump(node.func.value) in things
            is_store = isinstance(node, ast.Subscript) and isinstance(node.ctx, ast.Store)
            if is_change or (is_store and as_read(node.value) in things):
                yield "L23", node.lineno, "what is walked is changed"


def look_at_sets(source):
    for node in source.nodes:
        if not isinstance(node, ast.Set) and called(node) not in ("set", "frozenset"):
            continue
        above = source.parent[node]
        while isinstance(above, ast.BinOp) and isinstance(above.op, (ast.Sub, ast.BitAnd, ast.BitOr, ast.BitXor)):
            above = source.parent[above]
        is_asked = isinstance(above, ast.Compare) and all(
            isinstance(op, (ast.In, ast.NotIn, ast.Eq, ast.NotEq)) for op in above.ops)
        is_taken = called(above) in ("sorted", "len") and len(above.args) == 1 and not above.keywords
        if not is_asked and not is_taken:
            yield "L24", node.lineno, "a set that is kept"


def look_at_package(sources):
    """Methods and values of all classes, held against each other and against Python's own."""
    methods = {node.name for source in sources for node in source.methods()}
    values = {node.attr for source in sources for node in source.values()}
    for source in sources:
        for node in source.methods():
            if node.name in values:
                yield source, "L18", node.lineno, node.name + " is a method and a value"
            if node.name in OWN_VALUES and node.name not in METHODS + ["add", "discard", "__init__"]:
                yield source, "L26", node.lineno, "a method called " + node.name
        for node in source.values():
            if (node.attr in OWN_VALUES and node.attr not in VALUES) or node.attr == "args":
                yield source, "L26", node.lineno, "a value called " + node.attr
        for node in source.each(ast.Attribute):
            above = source.parent[node]
            is_called = isinstance(above, ast.Call) and above.func is node
            is_key = isinstance(above, ast.keyword) and above.arg == "key"
            if is_called and node.attr not in methods and node.attr not in METHODS + ["__init__"]:
                yield source, "L25", node.lineno, "a method called " + node.attr
            if not is_called and not is_key and node.attr not in values:
                yield source, "L25", node.lineno, node.attr + " is handed on"


def drawn_from(source, package):
    for node in source.each(ast.ImportFrom):
        yield (node.module or "")[len(package) + 1:].replace(".", "/") + ".py", node


def look_at_drawing(sources, package):
    by_name = {source.name: source for source in sources}
    for source in sources:
        for name, node in drawn_from(source, package):
            if name not in by_name:
                yield source, "L16", node.lineno, "an import from no file of the package"
                continue
            drawn = by_name[name]
            own = [n for n in drawn.top_names() if n not in drawn.imports]
            for alias in node.names:
                if alias.name not in own:
                    yield source, "L16", node.lineno, alias.name + " is not defined there"
        seen, todo = set(), [source.name]
        while todo:
            for name, node in drawn_from(by_name[todo.pop()], package):
                if name == source.name:
                    yield source, "L16", 1, "files draw from one another"
                if name in by_name and name not in seen:
                    seen.add(name)
                    todo.append(name)


def look_at_files(files):
    for name in sorted(files):
        stem = name[:-3]
        if not re.fullmatch(r"[a-z0-9_]+\.py", name):
            yield name, "L1", 1, "a file with another name"
        elif stem.startswith("test_") or stem in NO_FILES or stem in PYTHONS:
            yield name, "L14", 1, "a file with a name that is not used"
        elif stem.startswith("_") and stem != "__init__":
            yield name, "L12", 1, "a file with a name that is not used"
    if "__init__.py" not in files:
        yield "__init__.py", "L14", 1, "there is none"


def problems(files, package="chairvote"):
    """What is wrong with the files, a dict of names and texts: a list of (rule, file, line, words)."""
    found = [(rule, name, line, words) for name, rule, line, words in look_at_files(files)]
    sources = [Source(name, text) for name, text in sorted(files.items()) if name.endswith(".py")]
    looks = (
        look_at_text, look_at_top, look_at_tables, look_at_defs, look_at_classes, look_at_statements,
        look_at_expressions, look_at_names, look_at_own_names_of_python, look_at_walks, look_at_sets,
    )
    for source in sources:
        for look in looks:
            found.extend((rule, source.name, line, words) for rule, line, words in look(source))
        found.extend((rule, source.name, line, words) for rule, line, words in look_at_imports(source, package))
    for source, rule, line, words in list(look_at_package(sources)) + list(look_at_drawing(sources, package)):
        found.append((rule, source.name, line, words))
    return found
