"""Finders for rules of form: each gets a dict from names of files to their syntax trees, and lists what it finds."""

import ast
import builtins
import re

ALL_BUILTINS = set(dir(builtins))
COMPREHENSIONS = (ast.ListComp, ast.SetComp, ast.DictComp, ast.GeneratorExp)
VIEWS = {"items", "keys", "values"}
# Methods of strings, numbers, lists, dicts and sets that may be called.
BUILTIN_METHODS = set(
    "append clear copy count endswith extend find get index insert isalnum isalpha isdigit islower isspace isupper items join keys ljust "
    "lower lstrip partition pop remove replace reverse rfind rjust rpartition rsplit rstrip setdefault split splitlines startswith strip "
    "update upper values zfill bit_length isascii add discard".split())
BARRED = set("register mro elements open input law version_info with_traceback add_note".split())
BARRED_NAMES = set(
    "attrgetter breakpoint builtins compile copyright credits delattr dir eval exec exit gc getattr globals hasattr help id importlib "
    "license locals methodcaller os quit setattr type vars sys".split())
BARRED_WORDS = set(
    "typing typing_extensions enum Enum IntEnum StrEnum Flag IntFlag Generic Protocol ABC ABCMeta namedtuple NamedTuple TypedDict "
    "TYPE_CHECKING abstractmethod".split())
BARRED_PARTS = set("dataclass overload contextmanager metaclass Meta (type) _wall _WallAttr".split())
ITERATING = {"list", "tuple", "dict", "sorted", "sum", "min", "max", "any", "all", "enumerate", "zip", "iter"}


def nodes_in(trees, *kinds):
    """Pairs of the name of a file and a node of some kinds in it."""
    return [(name, node) for name, tree in trees.items() for node in ast.walk(tree) if isinstance(node, kinds)]


def parents_in(trees):
    return {child: node for tree in trees.values() for node in ast.walk(tree) for child in ast.iter_child_nodes(node)}


def is_call_of(node, names):
    return isinstance(node, ast.Call) and isinstance(node.func, ast.Name) and node.func.id in names


def bound_at_top(node):
    """The names that a statement at the top of a module binds."""
    if isinstance(node, ast.ImportFrom):
        return [alias.asname or alias.name for alias in node.names]
    if isinstance(node, (ast.FunctionDef, ast.ClassDef)):
        return [node.name]
    targets = node.targets if isinstance(node, ast.Assign) else []
    return [inner.id for target in targets for inner in ast.walk(target) if isinstance(inner, ast.Name)]


def top_statements(trees):
    """Statements at the top of modules that may not stand there, also such with other than one plain name."""
    found = []
    for name, tree in trees.items():
        bound = []
        for at, node in enumerate(tree.body):
            docstring = at == 0 and isinstance(node, ast.Expr) and isinstance(node.value, ast.Constant)
            plain = isinstance(node, ast.Assign) and len(node.targets) == 1 and isinstance(node.targets[0], ast.Name)
            if not (docstring or plain or isinstance(node, (ast.ImportFrom, ast.FunctionDef, ast.ClassDef))):
                found.append((name, node.lineno))
            if plain and any(isinstance(inner, (ast.Call, ast.Attribute, *COMPREHENSIONS)) for inner in ast.walk(node.value)):
                found.append((name, node.lineno))
            for each in bound_at_top(node):
                found += [(name, node.lineno)] if each in bound else []
                bound.append(each)
    return found


def powers(trees):
    """Powers whose exponent is not written as an integer from 0 to 64."""
    found = []
    for name, node in nodes_in(trees, ast.BinOp, ast.AugAssign):
        right = node.right if isinstance(node, ast.BinOp) else node.value
        written = isinstance(right, ast.Constant) and type(right.value) is int and 0 <= right.value <= 64
        if isinstance(node.op, ast.Pow) and not written:
            found.append((name, node.lineno))
    return found


class Names:
    """The names of methods, properties, static and class methods, class values and attributes of all classes."""

    def __init__(self, trees):
        self.methods, self.properties, self.statics, self.values = set(), set(), set(), set()
        for _, kind in nodes_in(trees, ast.ClassDef):
            for node in kind.body:
                if isinstance(node, ast.FunctionDef):
                    marks = [ast.unparse(mark) for mark in node.decorator_list]
                    plain = self.properties if "property" in marks or f"{node.name}.setter" in marks else self.statics if marks else self.methods
                    plain.add(node.name)
                if isinstance(node, ast.Assign):
                    self.values |= {target.id for target in node.targets}
        stored = [node for _, node in nodes_in(trees, ast.Attribute) if isinstance(node.ctx, ast.Store)]
        self.attributes = {node.attr for node in stored}

    def groups(self):
        return [self.methods, self.properties, self.statics, self.values, self.attributes]


def names_of_two_kinds(trees):
    """Names that are two of method, property, static or class method, class value and attribute."""
    groups = Names(trees).groups()
    return sorted({name for at, group in enumerate(groups) for other in groups[:at] for name in group & other})


def walked_names(trees):
    """Names over which an `__iter__` goes and that are not those of attributes alone."""
    names = Names(trees)
    taken = names.methods | names.properties | names.statics | names.values
    found = []
    for _, node in nodes_in(trees, ast.FunctionDef):
        if node.name == "__iter__":
            called = [call.func for call in ast.walk(node) if isinstance(call, ast.Call)]
            attributes = [inner for inner in ast.walk(node) if isinstance(inner, ast.Attribute)]
            found += [inner.attr for inner in attributes if inner.attr in taken and not (inner in called and inner.attr in VIEWS)]
    return found


def unknown_attributes(trees):
    """Attributes that are read though no class has them, and methods of builtin values that may not be called."""
    known = BUILTIN_METHODS.union(*Names(trees).groups(), {"setter"})
    return [(name, node.attr) for name, node in nodes_in(trees, ast.Attribute) if node.attr not in known and not node.attr.startswith("__init__")]


def names_of_builtin_values(trees):
    """Own attributes and methods that builtin values have, too; a method may be called like one that may be called."""
    taken = {each for kind in (str, int, list, dict, set, tuple, bytes, frozenset) for each in dir(kind) if not each.startswith("__")}
    names = Names(trees)
    return sorted((names.methods & taken - BUILTIN_METHODS) | (taken & (names.properties | names.statics | names.values | names.attributes)))


def builtins_in_other_meanings(trees):
    """Names of builtins that are bound, or are used otherwise than by calling them, as `key=`, as a kind or as an error."""
    parents = parents_in(trees)
    found = []
    for name, node in nodes_in(trees, ast.Name):
        if node.id in ALL_BUILTINS and not isinstance(node.ctx, ast.Load):
            found.append((name, node.id))
        if node.id in ALL_BUILTINS and isinstance(node.ctx, ast.Load):
            parent = parents[node]
            if isinstance(parent, ast.Tuple):
                parent = parents[parent]
            called = isinstance(parent, ast.Call) and (parent.func is node or is_call_of(parent, {"isinstance"}))
            decorator = isinstance(parent, ast.FunctionDef) and node in parent.decorator_list
            returned = isinstance(parent, ast.Return) and node.id == "NotImplemented"
            if not (called or decorator or returned or isinstance(parent, (ast.keyword, ast.ClassDef, ast.ExceptHandler))):
                found.append((name, node.id))
    found += [(name, node.arg) for name, node in nodes_in(trees, ast.arg) if node.arg in ALL_BUILTINS]
    for name, node in nodes_in(trees, ast.FunctionDef, ast.ClassDef):
        found += [(name, node.name)] if node.name in ALL_BUILTINS else []
    return found


def names_that_are_barred(trees):
    found = []
    for name, node in nodes_in(trees, ast.Name, ast.arg, ast.FunctionDef, ast.ClassDef, ast.Attribute, ast.keyword):
        for field in ("id", "arg", "name", "attr"):
            each = getattr(node, field, None)
            if isinstance(each, str):
                frames = each.startswith(("f_", "tb_", "co_", "gi_", "cr_", "ag_"))
                private = each.startswith("__") and not each.endswith("__")
                if each in BARRED or frames or private or (field != "attr" and each in BARRED_NAMES):
                    found.append((name, each))
    return found + [(name, "_") for name, node in nodes_in(trees, ast.Name) if node.id == "_" and isinstance(node.ctx, ast.Load)]


def words_that_are_barred(texts):
    """Words that may stand nowhere in the text of a file, some also not inside longer words."""
    words = [(name, word) for name, text in texts.items() for word in sorted(BARRED_WORDS & set(re.findall(r"\w+", text)))]
    return words + [(name, part) for name, text in texts.items() for part in sorted(BARRED_PARTS) if part in text]


def classes_as_values(trees):
    """Classes that are used otherwise than by a call, as a base, by a class value, in `isinstance` or as an error."""
    parents = parents_in(trees)
    own = {node.name for _, node in nodes_in(trees, ast.ClassDef)}
    found = []
    for name, node in nodes_in(trees, ast.Name):
        if node.id in own:
            parent = parents[node]
            if isinstance(parent, ast.Tuple):
                parent = parents[parent]
            kind = is_call_of(parent, {"isinstance"}) and parent.args[0] is not node
            called = isinstance(parent, ast.Call) and parent.func is node
            read = isinstance(parent, ast.Attribute) and isinstance(parent.ctx, ast.Load)
            if not (kind or called or read or isinstance(parent, (ast.ClassDef, ast.ExceptHandler))):
                found.append((name, node.lineno))
    return found


def odd_comparisons(trees):
    """`is` with anything but None, True and False."""
    found = []
    for name, node in nodes_in(trees, ast.Compare):
        for sign, other in zip(node.ops, node.comparators):
            plain = isinstance(other, ast.Constant) and any(other.value is each for each in (None, True, False))
            if isinstance(sign, (ast.Is, ast.IsNot)) and not plain:
                found.append((name, node.lineno))
    return found


def errors_of_python(trees):
    """Errors that are raised or caught and are not own ones; a TypeError may be raised."""
    own = {node.name for _, node in nodes_in(trees, ast.ClassDef)}
    found = []
    for name, node in nodes_in(trees, ast.Raise):
        if node.exc is not None and not is_call_of(node.exc, own | {"TypeError"}):
            found.append((name, node.lineno))
    for name, node in nodes_in(trees, ast.ExceptHandler):
        kinds = node.type.elts if isinstance(node.type, ast.Tuple) else [node.type]
        found += [(name, node.lineno) for kind in kinds if not (isinstance(kind, ast.Name) and kind.id in own)]
    return found


def kept_iterators(trees):
    """Calls of `zip` and the like, and views of dicts, that are not iterated at once."""
    parents = parents_in(trees)
    found = []
    for name, node in nodes_in(trees, ast.Call):
        view = isinstance(node.func, ast.Attribute) and node.func.attr in VIEWS
        if view or is_call_of(node, {"zip", "enumerate", "reversed", "range", "map"}):
            parent = parents[node]
            walked = isinstance(parent, (ast.For, ast.comprehension)) and parent.iter is node
            counted = is_call_of(node, {"range"}) and is_call_of(parent, {"len", "reversed"})
            if not (walked or counted or is_call_of(parent, ITERATING)):
                found.append((name, node.lineno))
    return found


def loose_sets(trees):
    """Sets that stand elsewhere than in `sorted` or `len`, or are stored in a name that is used otherwise than allowed."""
    parents = parents_in(trees)
    found = [(name, node.lineno) for name, node in nodes_in(trees, ast.SetComp)]
    for name, node in nodes_in(trees, ast.Call, ast.Set):
        if isinstance(node, ast.Set) or is_call_of(node, {"set", "frozenset"}):
            parent = parents[node]
            stored = isinstance(parent, ast.Assign) and isinstance(parent.targets[0], ast.Name)
            measured = is_call_of(parent, {"sorted", "len"}) and not parent.keywords
            nested = isinstance(node, ast.Call) and any(is_call_of(each, {"set"}) for each in node.args)
            if not (stored or measured) or nested or is_call_of(node, {"frozenset"}):
                found.append((name, node.lineno))
            if stored:
                found += [(name, line) for line in odd_uses_of_set(parents, parent)]
    return found


def odd_uses_of_set(parents, assignment):
    """The rows in which a stored set is used otherwise than by `add`, `in`, `len` and `sorted`."""
    function = assignment
    while not isinstance(function, ast.FunctionDef):
        function = parents[function]
    found = []
    for node in ast.walk(function):
        if isinstance(node, ast.Name) and node.id == assignment.targets[0].id and node is not assignment.targets[0]:
            parent = parents[node]
            changed = isinstance(parent, ast.Attribute) and parent.attr in ("add", "discard")
            tested = isinstance(parent, ast.Compare) and node is not parent.left and isinstance(parent.ops[0], (ast.In, ast.NotIn))
            if not (isinstance(node.ctx, ast.Load) and (changed or tested or is_call_of(parent, {"len", "sorted"}))):
                found.append(node.lineno)
    return found


def odd_stars(trees):
    """Calls with stars over anything but a name or an attribute off a name, or with a keyword beside `**`."""
    found = []
    properties = Names(trees).properties
    for name, node in nodes_in(trees, ast.Call):
        starred = [each.value for each in node.args if isinstance(each, ast.Starred)]
        double = [each.value for each in node.keywords if each.arg is None]
        for value in starred + double:
            off_name = isinstance(value, ast.Attribute) and isinstance(value.value, ast.Name) and value.attr not in properties
            if not (isinstance(value, ast.Name) or off_name):
                found.append((name, node.lineno))
        if double and len(node.keywords) > 1:
            found.append((name, node.lineno))
    return found


def odd_keywords(trees):
    """Keywords of builtins and of methods of builtin values that they do not take here, and barred ones of any call."""
    allowed = {"sorted": {"key", "reverse"}, "min": {"key", "default"}, "max": {"key", "default"}, "sum": {"start"}, "enumerate": {"start"}, "zip": {"strict"}}
    own = Names(trees)
    found = []
    for name, node in nodes_in(trees, ast.Call):
        told = {each.arg for each in node.keywords}
        taken = told
        if isinstance(node.func, ast.Name) and node.func.id in ALL_BUILTINS:
            taken = allowed.get(node.func.id, set())
        elif isinstance(node.func, ast.Attribute) and (node.func.attr in BUILTIN_METHODS or node.func.attr not in own.methods | own.statics | {"__init__"}):
            taken = set()
        if told - taken or told & {"self", "open", "input"}:
            found.append((name, node.lineno))
    return found


def methods_as_values(trees):
    """Methods that are read without calling them, off a class though they are plain, or properties that are called."""
    parents = parents_in(trees)
    names = Names(trees)
    own = {node.name for _, node in nodes_in(trees, ast.ClassDef)}
    found = []
    for name, node in nodes_in(trees, ast.Attribute):
        parent = parents[node]
        called = isinstance(parent, ast.Call) and parent.func is node
        decorator = isinstance(parent, ast.FunctionDef)
        off_class = isinstance(node.value, ast.Name) and node.value.id in own
        if node.attr in names.methods | names.statics | BUILTIN_METHODS and not called:
            found.append((name, node.lineno))
        if (node.attr in names.properties | names.values and called) or (off_class and node.attr in names.methods | names.properties and not decorator):
            found.append((name, node.lineno))
    return found


def odd_strings(trees):
    """Strings with signs, ends or words that no string has, and f-strings over several rows or with others inside."""
    found = []
    for name, node in nodes_in(trees, ast.Constant):
        if isinstance(node.value, (bytes, float, complex)):
            found.append((name, node.lineno))
        if isinstance(node.value, str):
            text = node.value
            ends = text.endswith(("._", ".__")) or (text.startswith("__") and text.endswith("__"))
            if ends or any(sign == "%" or sign != "\n" and not " " <= sign <= "~" for sign in text):
                found.append((name, node.lineno))
    for name, node in nodes_in(trees, ast.JoinedStr):
        inner = [each for each in ast.walk(node) if isinstance(each, ast.FormattedValue)]
        nested = [each for value in inner for each in ast.walk(value.value) if isinstance(each, ast.JoinedStr)]
        if node.lineno != node.end_lineno or nested or any(value.conversion not in (-1, 114, 115) for value in inner):
            found.append((name, node.lineno))
    return found


def assigned_in(node):
    """The names that a function or a comprehension assigns itself."""
    if isinstance(node, ast.Name):
        return {node.id} if isinstance(node.ctx, ast.Store) else set()
    inner = [child for child in ast.iter_child_nodes(node) if not isinstance(child, (*COMPREHENSIONS, ast.Lambda, ast.FunctionDef))]
    return set().union(*[assigned_in(child) for child in inner])


def shadowing_comprehensions(trees):
    """Comprehensions in others, in lambdas or in nested functions whose variables have names from further out."""
    found = []

    def look(name, node, outer, nested):
        if isinstance(node, (ast.FunctionDef, ast.Lambda)):
            names = {inner.arg for inner in ast.walk(node.args) if isinstance(inner, ast.arg)}
            outer, nested = outer | names | assigned_in(node), bool(outer)
        elif isinstance(node, COMPREHENSIONS):
            mine = set().union(*[assigned_in(part.target) for part in node.generators])
            if nested and mine & outer:
                found.append((name, node.lineno))
            outer, nested = outer | mine, True
        for child in ast.iter_child_nodes(node):
            look(name, child, outer, nested)

    for name, tree in trees.items():
        look(name, tree, set(), False)
    return found


def odd_targets(trees):
    """Attributes that are assigned otherwise than off a local name, and statements that are not used here."""
    found = []
    for name, node in nodes_in(trees, ast.Attribute):
        if not isinstance(node.ctx, ast.Load) and not isinstance(node.value, ast.Name):
            found.append((name, node.lineno))
    barred = (
        ast.AnnAssign, ast.Global, ast.AsyncFunctionDef, ast.AsyncFor, ast.AsyncWith, ast.Await, ast.Delete, ast.NamedExpr, ast.Div,
        ast.MatMult, ast.Mod, ast.Import,
    )
    found += [(name, getattr(node, "lineno", 0)) for name, node in nodes_in(trees, *barred)]
    annotated = [(name, node) for name, node in nodes_in(trees, ast.arg) if node.annotation is not None]
    annotated += [(name, node) for name, node in nodes_in(trees, ast.FunctionDef) if node.returns is not None]
    return found + [(name, node.lineno) for name, node in annotated]


def odd_double_underscores(trees):
    """`__init__` that return, `__len__` that return other than `len` or a number, and indexing without `__iter__`."""
    found = []
    for name, kind in nodes_in(trees, ast.ClassDef):
        methods = {node.name: node for node in kind.body if isinstance(node, ast.FunctionDef)}
        returns = {each: [node for node in ast.walk(methods[each]) if isinstance(node, ast.Return)] for each in methods}
        found += [(name, node.lineno) for node in returns.get("__init__", [])]
        for node in returns.get("__len__", []):
            plain = is_call_of(node.value, {"len"}) or (isinstance(node.value, ast.Constant) and type(node.value.value) is int)
            found += [] if plain else [(name, node.lineno)]
        if "__getitem__" in methods and "__iter__" not in methods:
            found.append((name, kind.lineno))
        if "__iter__" in methods:
            rows = [ast.unparse(node) for node in methods["__iter__"].body]
            plain = len(rows) == 1 and rows[0].startswith(("return iter(self.", "raise TypeError("))
            found += [] if plain else [(name, kind.lineno)]
    return found


def changed_tables(trees):
    """Lists and dicts at the top of modules that are used otherwise than by an index, by iteration or by `in`."""
    parents = parents_in(trees)
    tables = {
        target.id for tree in trees.values() for node in tree.body if isinstance(node, ast.Assign)
        for target in node.targets if isinstance(node.value, (ast.List, ast.Dict)) and isinstance(target, ast.Name)
    }
    found = []
    for name, node in nodes_in(trees, ast.Name):
        if node.id in tables and isinstance(node.ctx, ast.Load):
            parent = parents[node]
            indexed = isinstance(parent, ast.Subscript) and parent.value is node and isinstance(parent.ctx, ast.Load)
            walked = isinstance(parent, (ast.For, ast.comprehension)) and parent.iter is node
            tested = isinstance(parent, ast.Compare) and node is not parent.left
            if not (indexed or walked or tested):
                found.append((name, node.lineno))
    return found


def files_that_import(trees):
    """A dict from modules to the own modules that they import, with the packages above those."""
    found = {}
    for name, tree in trees.items():
        modules = [node.module for node in tree.body if isinstance(node, ast.ImportFrom) and node.module.startswith("pagebureau")]
        parts = [module.split(".") for module in modules]
        found[name] = {".".join(some[:many]) for some in parts for many in range(1, len(some) + 1)}
    return found


def rings_of_imports(trees):
    """Modules that import themselves by way of others."""
    direct = files_that_import(trees)
    reached = {name: set(some) for name, some in direct.items()}
    for _ in direct:
        reached = {name: some.union(*[direct.get(other, set()) for other in some]) for name, some in reached.items()}
    return sorted(name for name, some in reached.items() if name in some)


def names_imported_from_elsewhere(trees):
    """Names that are imported from another file than the one that defines them, renamed, private or not used."""
    found = []
    for name, tree in trees.items():
        used = {node.id for node in ast.walk(tree) if isinstance(node, ast.Name)}
        for node in [each for each in tree.body if isinstance(each, ast.ImportFrom)]:
            defined = [alias.name for alias in node.names]
            if node.module in trees:
                statements = [each for each in trees[node.module].body if not isinstance(each, ast.ImportFrom)]
                defined = [each for statement in statements for each in bound_at_top(statement)]
            for alias in node.names:
                if alias.name not in defined or alias.asname or alias.name.startswith("_") or alias.name not in used:
                    found.append((name, alias.name))
    return found
