"""Rules of the language subset that can be read off the files of the package."""

import ast
import builtins
import pathlib
import unittest

PACKAGE = pathlib.Path(__file__).resolve().parent.parent / "classledger"
FILES = sorted(PACKAGE.rglob("*.py"))

LIBRARY = {"math": {"gcd", "lcm", "isqrt", "comb", "perm", "factorial"},
           "heapq": {"heappush", "heappop", "heapify", "heapreplace", "heappushpop"},
           "collections": {"defaultdict", "deque"}}
BUILTINS = set(
    "len range enumerate zip min max sum abs sorted reversed int str bool list tuple dict set isinstance ord repr any "
    "all divmod iter next map type Exception ValueError TypeError KeyError IndexError LookupError ZeroDivisionError "
    "ArithmeticError OverflowError RuntimeError NotImplementedError StopIteration NotImplemented property "
    "staticmethod classmethod super".split())
METHODS = set(
    "append clear copy count endswith extend find get index insert isalnum isalpha isdigit islower isspace isupper "
    "items join keys ljust lower lstrip partition pop remove replace reverse rfind rjust rpartition rsplit rstrip "
    "setdefault split splitlines startswith strip update upper values zfill bit_length title capitalize swapcase "
    "casefold center expandtabs removeprefix removesuffix rindex isascii isdecimal isnumeric istitle isidentifier "
    "isprintable add discard sort popleft appendleft".split())
BARRED = set("mro elements open input law version_info with_traceback add_note register breakpoint compile dir eval exec "
             "exit gc globals help importlib locals os quit sys vars delattr getattr setattr hasattr".split())
WORDS = set("typing enum Enum IntEnum StrEnum Flag IntFlag Generic Protocol ABC ABCMeta namedtuple NamedTuple "
            "TypedDict abstractmethod dataclass".split())
STATEMENTS = (
    ast.FunctionDef, ast.ClassDef, ast.Return, ast.Delete, ast.Assign, ast.AugAssign, ast.AnnAssign, ast.For, ast.While,
    ast.If, ast.With, ast.Raise, ast.Try, ast.Assert, ast.ImportFrom, ast.Nonlocal, ast.Expr, ast.Pass, ast.Break,
    ast.Continue, ast.Match)
TAKERS = {"list", "tuple", "dict", "sorted", "sum", "min", "max", "any", "all"}
VIEWS = {"enumerate", "zip", "reversed", "map", "iter"}
CHANGERS = set("append clear extend insert pop remove reverse setdefault update add discard sort popleft appendleft "
               "extendleft rotate".split())
HEAPS = {"heappush", "heappop", "heapify", "heapreplace", "heappushpop"}
COMPREHENSIONS = (ast.ListComp, ast.SetComp, ast.DictComp, ast.GeneratorExp)


def trees():
    """Yield the path, the text and the tree of each file."""
    for path in FILES:
        text = path.read_text(encoding="utf-8")
        yield path, text, ast.parse(text)


def bound_names(function):
    """Return the parameters and local variables of a function."""
    told = [part.arg for part in ast.walk(function.args) if isinstance(part, ast.arg)]
    return told + [part.id for part in ast.walk(function)
                   if isinstance(part, ast.Name) and isinstance(part.ctx, ast.Store)]


def named(value):
    """Tell whether an expression is a name or an attribute off a name."""
    while isinstance(value, ast.Attribute):
        value = value.value
    return isinstance(value, ast.Name)


def starred(value):
    """Tell whether an expression may stand behind the star of a call."""
    if isinstance(value, (ast.List, ast.Tuple)):
        return all(map(starred, value.elts))
    if isinstance(value, ast.Dict):
        return all(map(starred, value.keys + value.values))
    return isinstance(value, ast.Constant) or named(value)


def bases(value):
    """Return the names whose list an expression may be, or may be a part of: by name, field, item, choice or view."""
    parts = []
    if isinstance(value, ast.Name):
        return {value.id}
    if isinstance(value, (ast.Attribute, ast.Subscript, ast.Starred, ast.NamedExpr)):
        parts = [value.value]
    elif isinstance(value, ast.IfExp):
        parts = [value.body, value.orelse]
    elif isinstance(value, ast.BoolOp):
        parts = value.values
    elif isinstance(value, (ast.Tuple, ast.List)):
        parts = value.elts
    elif isinstance(value, ast.Call) and isinstance(value.func, ast.Name) and value.func.id in VIEWS:
        parts = value.args
    elif isinstance(value, ast.Call) and isinstance(value.func, ast.Attribute):
        parts = [value.func.value] if value.func.attr in ("items", "keys", "values") else []
    return set().union(*map(bases, parts))


def given(part):
    """Return the pairs of a target and the value that a statement or an expression gives it."""
    if not isinstance(part, (ast.Assign, ast.AnnAssign, ast.NamedExpr)):
        return []
    pairs = []
    for target in part.targets if isinstance(part, ast.Assign) else [part.target]:
        if isinstance(target, ast.Tuple) and isinstance(part.value, ast.Tuple):
            pairs.extend(zip(target.elts, part.value.elts))
        else:
            pairs.append((target, part.value))
    return pairs


def one_list(function):
    """Return the sets of names of a function that may stand for one list, because one is given the other."""
    groups = []
    for part in ast.walk(function):
        for target, value in given(part):
            group = bases(target) | bases(value)
            near = [other for other in groups if other & group]
            groups = [other for other in groups if other not in near] + [group.union(*near)]
    return groups


def changes(parts):
    """Yield the row of each change to a list, a dict or a set, and the names that may stand for it."""
    for part in [row for part in parts for row in ast.walk(part)]:
        if isinstance(part, ast.Call) and isinstance(part.func, ast.Attribute) and part.func.attr in CHANGERS:
            yield part.lineno, bases(part.func.value)
        elif isinstance(part, ast.Call) and isinstance(part.func, ast.Name) and part.func.id in HEAPS:
            yield part.lineno, bases(part.args[0])
        elif isinstance(part, ast.AugAssign):
            yield part.lineno, bases(part.target)
        elif isinstance(part, (ast.Subscript, ast.Attribute)) and not isinstance(part.ctx, ast.Load):
            yield part.lineno, bases(part)


def changed_while_walked(function):
    """Return the rows of a function that change what a loop or a comprehension around them walks."""
    rows = set()
    groups = one_list(function)
    for part in ast.walk(function):
        if isinstance(part, ast.For):
            walked, inside = bases(part.iter), part.body
        elif isinstance(part, COMPREHENSIONS):
            walked, inside = set().union(*[bases(row.iter) for row in part.generators]), [part]
        else:
            continue
        walked = walked.union(*[group for group in groups if group & walked])
        rows.update([row for row, names in changes(inside) if names & walked])
    return sorted(rows)


class Files(unittest.TestCase):
    def test_names_and_characters(self):
        self.assertTrue(FILES)
        for path in PACKAGE.rglob("*"):
            if path.is_file() and "__pycache__" not in path.parts:
                self.assertEqual(path.suffix, ".py")
        for path, text, _ in trees():
            self.assertTrue(path.stem.islower() and path.stem.replace("_", "").isalnum(), path)
            self.assertTrue(all(" " <= sign <= "~" or sign == "\n" for sign in text), path)

    def test_init_defines_nothing(self):
        tree = ast.parse((PACKAGE / "__init__.py").read_text())
        self.assertEqual([part for part in tree.body if not isinstance(part, ast.Expr)], [])

    def test_sizes(self):
        for path, text, tree in trees():
            lines = text.splitlines()
            self.assertLessEqual(len(lines), 399, path)
            self.assertLessEqual(max(map(len, lines), default=0), 120, path)
            for part in ast.walk(tree):
                if isinstance(part, ast.FunctionDef):
                    self.assertLessEqual(part.end_lineno - part.lineno + 1, 40, (path, part.name))


class Modules(unittest.TestCase):
    def test_imports(self):
        for path, _, tree in trees():
            at_top = True
            for part in tree.body:
                if isinstance(part, ast.ImportFrom):
                    self.assertTrue(at_top, path)
                elif not (isinstance(part, ast.Expr) and isinstance(part.value, ast.Constant)):
                    at_top = False
            for part in ast.walk(tree):
                self.assertNotIsInstance(part, ast.Import)
                if isinstance(part, ast.ImportFrom):
                    self.check_import(path, part)

    def check_import(self, path, part):
        self.assertEqual(part.level, 0)
        names = [alias.name for alias in part.names]
        self.assertFalse([alias for alias in part.names if alias.asname or alias.name == "*"])
        if part.module in LIBRARY:
            self.assertLessEqual(set(names), LIBRARY[part.module], path)
            return
        self.assertTrue(part.module.startswith("classledger."), path)
        source = ast.parse((PACKAGE.parent / (part.module.replace(".", "/") + ".py")).read_text())
        own = [row.name for row in source.body if isinstance(row, (ast.FunctionDef, ast.ClassDef))]
        own += [row.targets[0].id for row in source.body if isinstance(row, ast.Assign)]
        self.assertLessEqual(set(names), set(own), path)

    def test_no_circles(self):
        edges = {}
        for path, _, tree in trees():
            edges["classledger." + path.stem] = [part.module for part in tree.body if isinstance(part, ast.ImportFrom)]
        left = dict(edges)
        while left:
            free = [name for name in left if not any(module in left for module in left[name])]
            self.assertTrue(free, left)
            for name in free:
                del left[name]

    def test_module_level(self):
        for path, _, tree in trees():
            names = []
            for part in tree.body:
                if isinstance(part, ast.Expr):
                    self.assertIsInstance(part.value, ast.Constant)
                elif isinstance(part, ast.Assign):
                    self.assertEqual(len(part.targets), 1)
                    names.append(part.targets[0].id)
                    self.assertFalse([row for row in ast.walk(part.value) if isinstance(row, ast.Call)], path)
                elif isinstance(part, ast.ImportFrom):
                    names.extend(alias.name for alias in part.names)
                else:
                    self.assertIsInstance(part, (ast.FunctionDef, ast.ClassDef))
                    names.append(part.name)
            self.assertEqual(len(names), len(set(names)), path)


class Names(unittest.TestCase):
    def test_names(self):
        # The examples leave a "_" among the builtins.
        every = set(dir(builtins)) - {"_"}
        for path, _, tree in trees():
            taken = {part.name for part in tree.body if isinstance(part, ast.ClassDef)}
            taken |= {alias.name for part in tree.body if isinstance(part, ast.ImportFrom) for alias in part.names}
            for part in ast.walk(tree):
                if isinstance(part, ast.FunctionDef):
                    self.assertEqual(part.decorator_list, [])
                    told = set(bound_names(part))
                    self.assertFalse(told & (every | taken | BARRED | WORDS), (path, part.name, told))
                    self.assertFalse(part.name in every | BARRED | WORDS, (path, part.name))
                if isinstance(part, ast.Name) and part.id in every:
                    self.assertIn(part.id, BUILTINS, path)
                if isinstance(part, ast.Name):
                    self.assertFalse(part.id.startswith("__"), path)
                if isinstance(part, ast.Attribute):
                    self.assertNotIn(part.attr, BARRED | WORDS)

    def test_methods(self):
        own = {part.name for _, _, tree in trees() for part in ast.walk(tree) if isinstance(part, ast.FunctionDef)}
        for path, _, tree in trees():
            for part in ast.walk(tree):
                if isinstance(part, ast.Call) and isinstance(part.func, ast.Attribute):
                    self.assertIn(part.func.attr, METHODS | own, path)


class Parts(unittest.TestCase):
    def test_statements_and_expressions(self):
        for path, _, tree in trees():
            for part in ast.walk(tree):
                if isinstance(part, ast.stmt):
                    self.assertIsInstance(part, STATEMENTS, (path, part.lineno))
                self.assertNotIsInstance(part, (ast.Div, ast.MatMult, ast.Await, ast.YieldFrom), path)
                if isinstance(part, ast.Constant):
                    self.assertNotIsInstance(part.value, (float, complex), path)

    def test_exponents(self):
        for path, _, tree in trees():
            for part in ast.walk(tree):
                if isinstance(part, ast.BinOp) and isinstance(part.op, ast.Pow):
                    self.assertIsInstance(part.right, ast.Constant, path)
                    self.assertTrue(0 <= part.right.value <= 64, path)

    def test_strings(self):
        for path, _, tree in trees():
            told = {id(part.value) for part in ast.walk(tree) if isinstance(part, ast.Expr)}
            for part in ast.walk(tree):
                if isinstance(part, ast.Constant) and isinstance(part.value, str) and id(part) not in told:
                    self.assertNotIn("%", part.value, path)

    def test_calls(self):
        for path, _, tree in trees():
            loose = [part for part in ast.walk(tree) if isinstance(part, ast.GeneratorExp)]
            for part in ast.walk(tree):
                if isinstance(part, ast.Call) and isinstance(part.func, ast.Name) and part.func.id in TAKERS:
                    loose = [row for row in loose if row not in part.args]
                if isinstance(part, ast.Call) and isinstance(part.func, ast.Name) and part.func.id in BUILTINS:
                    self.assertFalse([row for row in part.args if isinstance(row, ast.Starred)
                                      and part.func.id not in ("min", "max", "zip")], path)
            self.assertEqual(loose, [], path)

    def test_stars(self):
        """Behind a star and beside ** of a call stand names, attributes off a name, and written values alone."""
        for path, _, tree in trees():
            for part in ast.walk(tree):
                if isinstance(part, ast.Call):
                    for value in [row.value for row in part.args if isinstance(row, ast.Starred)]:
                        self.assertTrue(starred(value), (path, part.lineno))
                    for value in [row.value for row in part.keywords if row.arg is None]:
                        self.assertTrue(named(value), (path, part.lineno))

    def test_stars_are_told(self):
        for text, fits in (("x", True), ("x.y", True), ("(x, 1)", True), ("[x, (1, x.y)]", True), ("{1: x}", True),
                           ("g(x)", False), ("x[0]", False), ("(x, g(x))", False), ("x + y", False),
                           ("[a for a in x]", False), ("g(x).y", False), ("x if y else z", False)):
            self.assertEqual(starred(ast.parse(text, mode="eval").body), fits, text)

    def test_loops(self):
        """What a loop or a comprehension walks is not changed in it, by any of the names that it has."""
        for path, _, tree in trees():
            for part in ast.walk(tree):
                if isinstance(part, ast.FunctionDef):
                    self.assertEqual(changed_while_walked(part), [], (path, part.name))

    def test_loops_are_told(self):
        for rows, told in (
                (("for x in xs:", " xs.append(x)"), [3]),
                (("for x in xs:", " xs[0] = x"), [3]),
                (("for x in xs:", " del xs[0]"), [3]),
                (("for x in xs:", " xs += [x]"), [3]),
                (("for x in xs:", " heappush(xs, x)"), [3]),
                (("for x in xs:", " for y in ys:", "  xs.pop()", " ys.pop()"), [4]),
                (("for k, x in enumerate(xs):", " xs.pop()"), [3]),
                (("for k in d.items():", " d.clear()"), [3]),
                (("for x in a.xs:", " a.xs.append(x)"), [3]),
                (("for x in rows[0]:", " rows[0].append(x)"), [3]),
                (("for x in xs if n else ys:", " ys.append(x)"), [3]),
                (("for x in xs or ys:", " xs.append(x)"), [3]),
                (("ys = xs", "for x in ys:", " xs.append(x)"), [4]),
                (("ys = a.xs", "for x in ys:", " a.xs.append(x)"), [4]),
                (("xs, ys = ys, zs", "for x in zs:", " ys.append(x)"), [4]),
                (("ys = xs", "zs = ys", "for x in zs:", " xs.append(x)"), [5]),
                (("while n:", " later = []", " for x in xs:", "  later.append(x)", " xs = later"), [5]),
                (("return [xs.pop() for x in xs]",), [2]),
                (("for x in list(xs):", " xs.append(x)"), []),
                (("ys = list(xs)", "for x in xs:", " ys.append(x)"), []),
                (("for x in xs:", " ys.append(x)"), []),
                (("for x in xs:", " n += x"), []),
                (("for x in xs:", " x.append(n)"), []),
                (("for x in rows[n]:", " seen[x] = n"), []),
                (("for x in xs:", " pass", "xs.append(n)"), []),
                (("while n < len(xs):", " x = xs[n]", " xs.append(x)"), []),
                (("return [x for x in xs]",), [])):
            text = "\n".join(["def told(a, n, d, x, xs, ys, zs, rows, seen):"] + [" " + row for row in rows])
            self.assertEqual(changed_while_walked(ast.parse(text).body[0]), told, text)

    def test_beside_a_class_that_compares(self):
        """The package has a class with __eq__: no generator expression, and nothing is sorted in its place."""
        for path, _, tree in trees():
            for part in ast.walk(tree):
                self.assertNotIsInstance(part, (ast.GeneratorExp, ast.Lambda, ast.Match, ast.Global), path)
                if isinstance(part, ast.Attribute):
                    self.assertNotEqual(part.attr, "sort", path)

    def test_classes(self):
        for path, _, tree in trees():
            for part in ast.walk(tree):
                if isinstance(part, ast.ClassDef):
                    first, *rows = part.body
                    self.assertIsInstance(first, ast.Expr, path)
                    self.assertTrue(all(isinstance(row, ast.FunctionDef) for row in rows), path)
                    for row in rows:
                        if row.name.startswith("__"):
                            self.assertIn(row.name, ("__init__", "__eq__", "__len__", "__iter__"))

    def test_handlers(self):
        """Own errors alone are caught."""
        for path, _, tree in trees():
            for part in ast.walk(tree):
                if isinstance(part, ast.ExceptHandler):
                    self.assertIn(part.type.id, ("Fault", "Malformed", "Refused", "NoText"), path)

    def test_sets_are_used_as_told(self):
        """A stored set is assigned once; it is asked and given members, and nothing else happens to it."""
        for path, _, tree in trees():
            for function in [part for part in ast.walk(tree) if isinstance(part, ast.FunctionDef)]:
                names = [part.targets[0].id for part in ast.walk(function) if isinstance(part, ast.Assign)
                         and isinstance(part.value, ast.Call) and getattr(part.value.func, "id", "") == "set"]
                self.assertEqual(len(names), len(set(names)))
                fits = set()
                for part in ast.walk(function):
                    if isinstance(part, ast.Compare) and isinstance(part.ops[0], (ast.In, ast.NotIn)):
                        fits.add(part.comparators[0])
                    if isinstance(part, ast.Call) and getattr(part.func, "id", "") in ("len", "sorted"):
                        fits.update(part.args)
                    if isinstance(part, ast.Attribute) and part.attr in ("add", "discard"):
                        fits.add(part.value)
                for part in ast.walk(function):
                    if isinstance(part, ast.Name) and part.id in names and isinstance(part.ctx, ast.Load):
                        self.assertIn(part, fits, (path, part.lineno))

    def test_sets_are_not_iterated(self):
        for path, _, tree in trees():
            for part in ast.walk(tree):
                if isinstance(part, (ast.For, ast.comprehension)):
                    self.assertNotIsInstance(part.iter, (ast.Set, ast.SetComp), path)
                    called = isinstance(part.iter, ast.Call) and isinstance(part.iter.func, ast.Name)
                    self.assertFalse(called and part.iter.func.id == "set", path)


if __name__ == "__main__":
    unittest.main()
