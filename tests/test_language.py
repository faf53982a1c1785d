"""The rules of LANGUAGE.md that can be seen in the code without much doubt."""
import ast
import builtins
import pathlib
import re
import unittest

FOLDER = pathlib.Path(__file__).resolve().parent.parent / "meetwhere"
FILES = sorted(FOLDER.glob("*.py"))
TREES = {path.stem: ast.parse(path.read_text()) for path in FILES}

LET_BUILTINS = set("""len range enumerate zip min max sum abs sorted reversed int str bool list tuple dict set
    isinstance ord repr any all divmod map iter next Exception ValueError TypeError KeyError IndexError LookupError
    ZeroDivisionError RuntimeError NotImplementedError NotImplemented property""".split())
LET_METHODS = set("""append clear copy count endswith extend find get index insert isalnum isalpha isdigit islower
    isspace isupper items join keys ljust lower lstrip partition pop remove replace reverse rfind rjust rpartition
    rsplit rstrip setdefault split splitlines startswith strip update upper values zfill bit_length add discard
    __init__""".split())
LET_DUNDERS = set("__init__ __eq__ __repr__ __str__ __len__ __call__ __iter__ __contains__ __or__ __and__".split())
LET_LIBRARY = {"math": {"gcd", "lcm", "isqrt", "comb", "perm", "factorial"}}
BARRED_NAMES = set("""register mro elements open input law version_info with_traceback add_note attrgetter breakpoint
    compile copyright credits delattr dir eval exec exit gc globals help id importlib license locals methodcaller os
    quit setattr vars _cold _tuplegetter _outside _record _written_out _member_names""".split())
BARRED_WORDS = re.compile(r"\b(typing|typing_extensions|enum|Enum|IntEnum|StrEnum|Flag|IntFlag|Generic|Protocol|ABC|"
                          r"ABCMeta|namedtuple|NamedTuple|TypedDict|TYPE_CHECKING|abstractmethod|_wall|_WallAttr)\b"
                          r"|dataclass|overload|contextmanager")
CHANGES = set("append clear extend insert pop remove reverse setdefault update sort add discard".split())
LET_STATEMENTS = (ast.FunctionDef, ast.ClassDef, ast.ImportFrom, ast.Assign, ast.AugAssign, ast.If, ast.While, ast.For,
                  ast.Return, ast.Break, ast.Continue, ast.Pass, ast.Raise, ast.Assert, ast.Delete, ast.Expr, ast.Try,
                  ast.Nonlocal)


def docstrings(tree):
    """Return the docstring nodes of a file."""
    owners = [node for node in ast.walk(tree) if isinstance(node, (ast.Module, ast.ClassDef, ast.FunctionDef))]
    return [node.body[0].value for node in owners if ast.get_docstring(node) is not None]


def own_methods():
    """Return the names of the methods of all classes."""
    classes = [node for tree in TREES.values() for node in ast.walk(tree) if isinstance(node, ast.ClassDef)]
    return {item.name for made in classes for item in made.body if isinstance(item, ast.FunctionDef)}


def bound_at_top(tree):
    """Return the names that a file binds at module level, in their order."""
    found = []
    for node in tree.body:
        if isinstance(node, (ast.FunctionDef, ast.ClassDef)):
            found.append(node.name)
        elif isinstance(node, ast.Assign):
            found.extend(target.id for target in node.targets)
        elif isinstance(node, ast.ImportFrom):
            found.extend(alias.name for alias in node.names)
    return found


def nodes(kinds):
    """Yield each node of these kinds in the package with the name of its file."""
    for name, tree in TREES.items():
        for node in ast.walk(tree):
            if isinstance(node, kinds):
                yield name, node


def things_in(node):
    """Return the texts of the names and attributes that an expression may stand for or goes over; copies are others."""
    if isinstance(node, (ast.Name, ast.Attribute)):
        return {ast.unparse(node)}
    if isinstance(node, ast.IfExp):
        return things_in(node.body) | things_in(node.orelse)
    if isinstance(node, ast.BoolOp):
        return set().union(*[things_in(value) for value in node.values])
    if isinstance(node, ast.Call):
        if isinstance(node.func, ast.Attribute) and node.func.attr in ("items", "keys", "values"):
            return things_in(node.func.value)
        if isinstance(node.func, ast.Name) and node.func.id in ("enumerate", "zip", "reversed"):
            return set().union(*[things_in(arg) for arg in node.args])
    return set()


def changed_in(node):
    """Return the texts of the names and attributes that one step of the code changes."""
    targets = []
    if isinstance(node, (ast.Assign, ast.Delete)):
        targets = [target.value for target in node.targets if isinstance(target, ast.Subscript)]
    elif isinstance(node, ast.AugAssign):
        targets = [node.target.value if isinstance(node.target, ast.Subscript) else node.target]
    elif isinstance(node, ast.Call) and isinstance(node.func, ast.Attribute) and node.func.attr in CHANGES:
        targets = [node.func.value]
    return set().union(*[things_in(target) for target in targets])


def with_other_names(things, function):
    """Return names and attributes with all that somewhere in the function are made to stand for the same."""
    same_things = []
    for node in ast.walk(function):
        if isinstance(node, ast.Assign) and things_in(node.value):
            same_things.append(things_in(node.value).union(*[things_in(target) for target in node.targets]))
    found, further = set(), set(things)
    while further != found:
        found = further
        further = found.union(*[same for same in same_things if same & found])
    return found


def changed_walks(tree):
    """Return the rows of all loops in which something is changed that the loop goes over, by whatever name."""
    found = []
    for function in ast.walk(tree):
        if not isinstance(function, ast.FunctionDef):
            continue
        for node in ast.walk(function):
            loops = [node] if isinstance(node, ast.For) else getattr(node, "generators", [])
            walked = set().union(*[things_in(loop.iter) for loop in loops])
            inner = set().union(*[changed_in(item) for item in ast.walk(node)]) if walked else set()
            if with_other_names(walked, function) & inner:
                found.append(node.lineno)
    return found


class Language(unittest.TestCase):
    def test_files(self):
        self.assertGreater(len(FILES), 1)
        for path in FOLDER.iterdir():
            self.assertTrue(path.suffix == ".py" or path.name == "__pycache__", path)
        for path in FILES:
            lines = path.read_text().split("\n")
            self.assertLess(len(lines), 400, path)
            for line in lines:
                self.assertLessEqual(len(line), 120, path)
                self.assertTrue(all(" " <= sign <= "~" for sign in line), (path, line))

    def test_functions_are_small(self):
        for name, node in nodes(ast.FunctionDef):
            self.assertLessEqual(node.end_lineno - node.lineno + 1, 40, (name, node.name))

    def test_imports_name_the_files_that_define_and_go_in_no_circle(self):
        needs = {name: set() for name in TREES}
        for name, node in nodes((ast.Import, ast.ImportFrom)):
            self.assertIsInstance(node, ast.ImportFrom)
            self.assertEqual(node.level, 0)
            if node.module in LET_LIBRARY:
                self.assertLessEqual({alias.name for alias in node.names}, LET_LIBRARY[node.module], name)
                self.assertTrue(all(alias.asname is None for alias in node.names), name)
                continue
            folder, file = node.module.split(".")
            self.assertEqual(folder, "meetwhere")
            needs[name].add(file)
            own = [item for item in TREES[file].body if not isinstance(item, ast.ImportFrom)]
            bound = bound_at_top(ast.Module(own, []))
            for alias in node.names:
                self.assertIn(alias.name, bound, (name, alias.name))
                self.assertIsNone(alias.asname)
                used = [item for item in ast.walk(TREES[name]) if isinstance(item, ast.Name) and item.id == alias.name]
                self.assertTrue(used, (name, alias.name))
        while needs:
            ready = [name for name in needs if not needs[name] & set(needs)]
            self.assertTrue(ready, needs)
            needs = {name: needs[name] for name in needs if name not in ready}

    def test_module_level(self):
        for name, tree in TREES.items():
            bound = bound_at_top(tree)
            self.assertEqual(len(bound), len(set(bound)), name)
            for node in tree.body:
                self.assertIsInstance(node, (ast.Expr, ast.ImportFrom, ast.FunctionDef, ast.ClassDef, ast.Assign), name)
                if isinstance(node, ast.Expr):
                    self.assertIs(node, tree.body[0], name)

    def test_statements_and_expressions(self):
        for name, node in nodes((ast.stmt, ast.GeneratorExp, ast.Div, ast.Lambda, ast.NamedExpr, ast.Await)):
            self.assertIsInstance(node, LET_STATEMENTS, (name, node.lineno if hasattr(node, "lineno") else node))
        for name, node in nodes(ast.Constant):
            self.assertNotIsInstance(node.value, (float, complex, bytes), name)

    def test_names(self):
        for name, tree in TREES.items():
            bound = set(bound_at_top(tree))
            classes_and_imports = {alias.name for node in tree.body if isinstance(node, ast.ImportFrom)
                                   for alias in node.names}
            classes_and_imports |= {node.name for node in tree.body if isinstance(node, ast.ClassDef)}
            for node in ast.walk(tree):
                made = [node.arg] if isinstance(node, ast.arg) else []
                if isinstance(node, ast.Name):
                    if isinstance(node.ctx, ast.Load) and hasattr(builtins, node.id):
                        self.assertTrue(node.id in LET_BUILTINS or node.id in bound, (name, node.id))
                    elif not isinstance(node.ctx, ast.Load):
                        made.append(node.id)
                for one in made:
                    self.assertFalse(hasattr(builtins, one), (name, one))
                    self.assertNotIn(one, BARRED_NAMES | classes_and_imports, name)
            for one in bound:
                self.assertFalse(hasattr(builtins, one), (name, one))
                self.assertNotIn(one, BARRED_NAMES, name)

    def test_methods(self):
        mine = own_methods()
        for name in mine:
            self.assertTrue(not name.startswith("__") or name in LET_DUNDERS, name)
        for name, node in nodes(ast.Call):
            if isinstance(node.func, ast.Attribute):
                self.assertIn(node.func.attr, LET_METHODS | mine, name)

    def test_generators_are_iterated_at_once(self):
        generators = {node.name for _, node in nodes(ast.FunctionDef)
                      if any(isinstance(item, (ast.Yield, ast.YieldFrom)) for item in ast.walk(node))}
        let = 0
        for _, node in nodes((ast.For, ast.comprehension, ast.YieldFrom, ast.Call)):
            inner = node.value if isinstance(node, ast.YieldFrom) else getattr(node, "iter", None)
            if isinstance(node, ast.Call) and isinstance(node.func, ast.Name) and node.func.id in ("list", "tuple"):
                inner = node.args[0] if node.args else None
            if isinstance(inner, ast.Call) and isinstance(inner.func, ast.Name) and inner.func.id in generators:
                let += 1
                for arg in inner.args:
                    self.assertIsInstance(arg, (ast.Name, ast.Attribute, ast.Constant, ast.Tuple))
        uses = [node for _, node in nodes(ast.Name) if node.id in generators]
        self.assertEqual(len(uses), let)

    def test_what_a_loop_goes_over_is_not_changed_in_it(self):
        for name, tree in TREES.items():
            self.assertEqual(changed_walks(tree), [], name)

    def test_changes_in_a_loop_are_seen(self):
        bodies = ("for x in xs: xs.append(x)", "for x in xs: ys[x] = 1\n ys = xs", "[xs.pop() for x in xs]",
                  "ys = a if b else xs\n for x in xs: del ys[x]", "for x, y in zip(xs, ys): ys += x",
                  "for x in self.xs: self.xs.pop()", "zs = ys\n ys = xs\n for x in xs.items(): zs[x] = 1",
                  "for x in a or xs: xs.clear()")
        for body in bodies:
            self.assertEqual(len(changed_walks(ast.parse(f"def f():\n {body}"))), 1, body)
        let = ("for x in list(xs): xs.append(x)", "for x in xs: ys[x] = 1", "for x in xs: ys = list(xs)\n ys.pop()")
        for body in let:
            self.assertEqual(changed_walks(ast.parse(f"def f():\n {body}")), [], body)

    def test_strings(self):
        for name, tree in TREES.items():
            passed_over = docstrings(tree)
            for node in ast.walk(tree):
                if isinstance(node, ast.Constant) and isinstance(node.value, str):
                    self.assertNotIn("%", node.value, name)
                    if node not in passed_over:
                        self.assertIsNone(BARRED_WORDS.search(node.value), name)
                        self.assertNotIn("__", node.value, name)
        for path in FILES:
            for word in re.findall(r"[A-Za-z_]\w*", path.read_text()):
                self.assertIsNone(BARRED_WORDS.search(word), (path, word))
