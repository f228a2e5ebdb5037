"""Rules of the language that can be seen in a parsed file, each as a function from a tree to the places that break it."""

import ast
import builtins

KNOWN = (
    "len range enumerate zip min max sum abs sorted reversed int str bool bytes list tuple dict set frozenset isinstance ord repr any "
    "all divmod pow getattr hasattr setattr iter next map type property classmethod staticmethod super Exception ValueError TypeError "
    "KeyError IndexError LookupError ZeroDivisionError ArithmeticError OverflowError RuntimeError NotImplementedError AttributeError "
    "StopIteration NotImplemented"
).split()
METHODS = (
    "append clear copy count endswith extend find get index insert isalnum isalpha isdigit islower isspace isupper items join keys "
    "ljust lower lstrip isascii partition pop remove replace reverse rfind rjust rpartition rsplit rstrip setdefault split splitlines "
    "startswith strip update upper values zfill bit_length add discard __init__"
).split()
CHANGING = ("append", "extend", "insert", "pop", "remove", "clear", "reverse", "sort", "update", "setdefault", "add", "discard")
BARRED = (
    "register mro elements open input law version_info with_traceback add_note attrgetter breakpoint compile copyright dir eval exec "
    "exit gc globals help id importlib license locals methodcaller os quit vars sys"
).split()
READERS = ("__eq__", "__str__", "__repr__", "__len__", "__contains__", "__getitem__", "__iter__")
AT_ONCE = ("zip", "enumerate", "reversed", "map")
TAKE_AT_ONCE = ("list", "tuple", "dict", "sorted", "sum", "any", "all", "enumerate", "zip", "min", "max")


def functions(tree):
    return [node for node in ast.walk(tree) if isinstance(node, ast.FunctionDef)]


def parents(tree):
    return {child: node for node in ast.walk(tree) for child in ast.iter_child_nodes(node)}


def called(node):
    """The name that is called, None for anything else."""
    return node.func.id if isinstance(node, ast.Call) and isinstance(node.func, ast.Name) else None


def roots(node):
    """The texts of the names and attributes that a loop over this walks."""
    if isinstance(node, (ast.Name, ast.Attribute)):
        return [ast.unparse(node)] + ([node.attr] if isinstance(node, ast.Attribute) else [])
    if isinstance(node, ast.Subscript):
        return [] if isinstance(node.slice, ast.Slice) else roots(node.value)
    if isinstance(node, ast.IfExp):
        return roots(node.body) + roots(node.orelse)
    if isinstance(node, ast.BoolOp):
        return [name for part in node.values for name in roots(part)]
    if isinstance(node, ast.Call):
        if called(node) in ("enumerate", "zip", "reversed"):
            return [name for part in node.args for name in roots(part)]
        if isinstance(node.func, ast.Attribute) and node.func.attr in ("items", "keys", "values"):
            return roots(node.func.value)
    return []


def one_name(names, name):
    while names.get(name, name) != name:
        name = names[name]
    return name


def aliases(function):
    """For names that are given the value of another name as it is, one name for all of them."""
    names = {}
    for node in ast.walk(function):
        if isinstance(node, ast.Assign):
            targets, value = node.targets, node.value
            pairs = [(target, value) for target in targets]
            if isinstance(value, ast.Tuple) and isinstance(targets[0], ast.Tuple):
                pairs = list(zip(targets[0].elts, value.elts))
            for target, source in pairs:
                if isinstance(target, ast.Name):
                    for name in roots(source):
                        names[one_name(names, name)] = one_name(names, target.id)
    return names


def changed_names(nodes):
    """The names and attributes that are changed, with their lines."""
    found = []
    for node in [part for top in nodes for part in ast.walk(top)]:
        base = None
        if isinstance(node, ast.Call) and isinstance(node.func, ast.Attribute) and node.func.attr in CHANGING:
            base = node.func.value
        elif isinstance(node, ast.Subscript) and isinstance(node.ctx, (ast.Store, ast.Del)):
            base = node.value
        elif isinstance(node, ast.AugAssign):
            base = node.target
        while isinstance(base, ast.Subscript):
            base = base.value
        if isinstance(base, (ast.Name, ast.Attribute)):
            found.append((ast.unparse(base), node.lineno))
            if isinstance(base, ast.Attribute):
                found.append((base.attr, node.lineno))
    return found


def changed_while_walked(tree):
    """L23: what a loop walks is not changed in it, by whatever name."""
    places = []
    for function in functions(tree):
        names = aliases(function)
        for node in ast.walk(function):
            if isinstance(node, ast.For):
                walked, body = roots(node.iter), node.body + node.orelse
            elif isinstance(node, (ast.ListComp, ast.SetComp, ast.DictComp, ast.GeneratorExp)):
                walked, body = [name for part in node.generators for name in roots(part.iter)], [node]
            else:
                continue
            walked = {one_name(names, name) for name in walked}
            places += [line for name, line in changed_names(body) if one_name(names, name) in walked]
    return places


def handed_on(node):
    """What `extend`, `update`, `+=` or `|=` changes, and what it is handed; None for anything else."""
    if isinstance(node, ast.AugAssign) and isinstance(node.op, (ast.Add, ast.BitOr)):
        return node.target, [node.value]
    if isinstance(node, ast.Call) and isinstance(node.func, ast.Attribute) and node.func.attr in ("extend", "update"):
        return node.func.value, node.args
    return None


def changed_by_itself(tree):
    """L5, L23: `extend`, `update`, `+=` and `|=` are not handed what they change, nor an item of it, by whatever name."""
    places = []
    for function in functions(tree):
        names = aliases(function)
        for node in ast.walk(function):
            if isinstance(node, (ast.For, ast.comprehension)):
                for target in [part for part in ast.walk(node.target) if isinstance(part, ast.Name)]:
                    for name in roots(node.iter):
                        names[one_name(names, name)] = one_name(names, target.id)
        for node in ast.walk(function):
            if handed_on(node):
                target, handed = handed_on(node)
                changed = {one_name(names, name) for name in roots(target)}
                given = {one_name(names, name) for part in handed for name in roots(part)}
                places += [node.lineno] if changed & given else []
    return places


def names_with_other_meanings(tree):
    """L15: no parameter, variable or nested function is called as an import, a class or a builtin."""
    taken = set(dir(builtins))
    for node in tree.body:
        if isinstance(node, ast.ImportFrom):
            taken |= {alias.asname or alias.name for alias in node.names}
        if isinstance(node, ast.ClassDef):
            taken.add(node.name)
    places = []
    for node in ast.walk(tree):
        if isinstance(node, ast.Name) and isinstance(node.ctx, ast.Store) and node.id in taken:
            places.append(node.lineno)
        if isinstance(node, ast.arg) and node.arg in taken:
            places.append(node.lineno)
    methods = {part for node in ast.walk(tree) if isinstance(node, ast.ClassDef) for part in node.body}
    places += [one.lineno for one in functions(tree) if one not in methods and one.name in taken]
    return places


def unknown_builtins(tree):
    """L8: no other builtin is used; L17: some names are used nowhere."""
    places = []
    for node in ast.walk(tree):
        if isinstance(node, ast.Name) and isinstance(node.ctx, ast.Load):
            if node.id in dir(builtins) and node.id not in KNOWN:
                places.append(node.lineno)
        name = getattr(node, "id", getattr(node, "attr", getattr(node, "arg", getattr(node, "name", None))))
        if name in BARRED:
            places.append(node.lineno)
    return places


def unknown_methods(tree, own):
    """L25: of builtin values only told methods are called; no `.sort()` where a class compares."""
    return [
        node.lineno for node in ast.walk(tree)
        if isinstance(node, ast.Call) and isinstance(node.func, ast.Attribute) and node.func.attr not in list(METHODS) + list(own)
    ]


def starred_values(tree):
    """L7: behind a star in a call stand only names, attributes off names, literals, and lists, tuples and dicts of these."""
    places = []
    for node in ast.walk(tree):
        if isinstance(node, ast.Call):
            for value in [part.value for part in node.args if isinstance(part, ast.Starred)]:
                off_name = isinstance(value, ast.Attribute) and isinstance(value.value, ast.Name)
                if not off_name and not isinstance(value, (ast.Name, ast.List, ast.Tuple, ast.Constant)):
                    places.append(node.lineno)
    return places


def changing_readers(tree):
    """L5, L28: properties, operators and the methods for texts, sizes and equality assign no attribute and no item."""
    places = []
    for one in functions(tree):
        reads = [part for part in one.decorator_list if getattr(part, "id", "") == "property"]
        if reads or one.name in READERS:
            for node in ast.walk(one):
                if isinstance(node, (ast.Attribute, ast.Subscript)) and not isinstance(node.ctx, ast.Load):
                    places.append(node.lineno)
    return places


def values_by_names(tree):
    """L3: what is assigned at module level is written out."""
    places = []
    for node in tree.body:
        if isinstance(node, ast.Assign):
            places += [part.lineno for part in ast.walk(node.value) if isinstance(part, (ast.Name, ast.Call, ast.Attribute))]
    return places


def barred_expressions(tree):
    """L6, L7, L20, L24, L27: statements and expressions that are not let."""
    up = parents(tree)
    places = []
    for node in ast.walk(tree):
        bad = isinstance(node, (ast.Global, ast.AsyncFunctionDef, ast.Await, ast.Set))
        bad = bad or isinstance(node, ast.Constant) and isinstance(node.value, (float, bytes))
        bad = bad or isinstance(node, ast.BinOp) and isinstance(node.op, ast.Div)
        if isinstance(node, ast.Constant) and isinstance(node.value, str) and "%" in node.value:
            bad = True
        if isinstance(node, ast.Compare) and any(isinstance(sign, (ast.Is, ast.IsNot)) for sign in node.ops):
            kind = called(node.left) == "type" and isinstance(node.comparators[0], ast.Name) and len(node.ops) == 1
            bad = bad or not kind and not isinstance(node.comparators[-1], ast.Constant)
        if isinstance(node, ast.SetComp) or called(node) in ("set", "frozenset"):
            bad = bad or called(up.get(node)) not in ("sorted", "len") or called(node) == "frozenset"
        if bad:
            places.append(getattr(node, "lineno", 0))
    return places


def kept_iterators(tree):
    """L23: `zip` and the like are iterated on the spot."""
    up = parents(tree)
    places = []
    for node in ast.walk(tree):
        views = isinstance(node, ast.Call) and isinstance(node.func, ast.Attribute) and node.func.attr in ("items", "keys", "values")
        if called(node) in AT_ONCE or views:
            over = up[node]
            if isinstance(over, (ast.For, ast.comprehension)) and over.iter is node:
                continue
            if called(over) not in TAKE_AT_ONCE:
                places.append(node.lineno)
    return places


def assigned_names(nodes):
    """The names that are assigned in these parts, those of comprehensions left out."""
    found, waiting = set(), list(nodes)
    while waiting:
        node = waiting.pop()
        if isinstance(node, (ast.ListComp, ast.SetComp, ast.DictComp, ast.GeneratorExp)):
            continue
        if isinstance(node, ast.Name) and isinstance(node.ctx, ast.Store):
            found.add(node.id)
        if isinstance(node, ast.arg):
            found.add(node.arg)
        waiting += ast.iter_child_nodes(node)
    return found


def shadowing_comprehensions(tree):
    """L7: within another comprehension no variable is a name that is assigned further out."""
    places = []
    kinds = (ast.ListComp, ast.SetComp, ast.DictComp, ast.GeneratorExp)
    for function in functions(tree):
        names = assigned_names([function.args] + function.body)
        for outer in [node for node in ast.walk(function) if isinstance(node, kinds)]:
            outer_names = names | {part.id for gen in outer.generators for part in ast.walk(gen.target) if isinstance(part, ast.Name)}
            for inner in [node for node in ast.walk(outer) if isinstance(node, kinds) and node is not outer]:
                own = {part.id for gen in inner.generators for part in ast.walk(gen.target) if isinstance(part, ast.Name)}
                if (own & outer_names) - {"_"}:
                    places.append(inner.lineno)
    return places
