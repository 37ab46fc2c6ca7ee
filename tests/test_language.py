"""The rules of the language that can be seen in the text of a file."""

import ast
import builtins
import pathlib
import re
import unittest

FOLDER = pathlib.Path(__file__).resolve().parent.parent / "headamid"
FILES = sorted(FOLDER.rglob("*.py"))
TREES = {path: ast.parse(path.read_text(encoding="utf-8")) for path in FILES}

LET_LIBRARY = {
    "heapq": {"heappush", "heappop", "heapify", "heapreplace", "heappushpop"},
    "math": {"gcd", "lcm", "isqrt", "comb", "perm", "factorial"},
    "itertools": {"chain", "accumulate", "pairwise", "islice", "zip_longest"},
    "collections": {"defaultdict"},
}
LET_BUILTINS = set(
    "len range enumerate zip min max sum abs sorted reversed int str bool bytes list tuple dict set frozenset "
    "isinstance ord repr any all divmod pow getattr hasattr setattr map iter next Exception ValueError TypeError "
    "KeyError IndexError LookupError ZeroDivisionError ArithmeticError OverflowError RuntimeError "
    "NotImplementedError AttributeError StopIteration NotImplemented property staticmethod classmethod".split())
NO_WORDS = (
    "type typing typing_extensions enum Enum IntEnum StrEnum Flag IntFlag Generic Protocol ABC ABCMeta namedtuple "
    "NamedTuple TypedDict TYPE_CHECKING abstractmethod dataclass overload contextmanager").split()
NO_NAMES = set(
    "register mro elements open input law version_info with_traceback add_note attrgetter breakpoint builtins compile "
    "copyright credits delattr dir eval exec exit gc globals help id importlib license locals methodcaller os quit "
    "type vars sys".split())
NO_NODES = (
    ast.Global, ast.AsyncFunctionDef, ast.AsyncFor, ast.AsyncWith, ast.Await, ast.GeneratorExp, ast.Import, ast.Div,
)
DOUBLE_UNDERSCORES = {"__init__", "__eq__", "__len__", "__iter__"}
LET_METHODS = set(
    "append clear copy count endswith extend find get index insert isalnum isalpha isdigit islower isspace isupper "
    "items join keys ljust lower lstrip partition pop remove replace reverse rfind rjust rpartition rsplit rstrip "
    "setdefault split splitlines startswith strip update upper values zfill bit_length add discard".split())


def code_lines(path):
    """The lines of a file without its docstrings and comments."""
    kept = path.read_text(encoding="utf-8").split("\n")
    for node in ast.walk(TREES[path]):
        if isinstance(node, (ast.Module, ast.ClassDef, ast.FunctionDef)) and ast.get_docstring(node) is not None:
            for at in range(node.body[0].lineno - 1, node.body[0].end_lineno):
                kept[at] = ""
    return [re.sub(r"#.*", "", line) for line in kept]


def bound_names(tree):
    """All names that functions of a file bind: parameters, variables, nested functions."""
    names = set()
    for node in ast.walk(tree):
        if isinstance(node, ast.arg):
            names.add(node.arg)
        elif isinstance(node, ast.Name) and isinstance(node.ctx, ast.Store):
            names.add(node.id)
    return names


def top_names(tree):
    """The names of the classes, functions, imports and values at the top of a file."""
    names = []
    for node in tree.body:
        if isinstance(node, (ast.ClassDef, ast.FunctionDef)):
            names.append(node.name)
        elif isinstance(node, ast.ImportFrom):
            names += [alias.name for alias in node.names]
        elif isinstance(node, ast.Assign):
            names += [target.id for target in node.targets]
    return names


CHANGES = set("append clear extend insert pop remove reverse setdefault update add discard".split())


def parts_walked(node):
    """The things that a loop or comprehension goes over, as texts."""
    if isinstance(node, ast.Call) and ast.unparse(node.func) in ("enumerate", "zip", "reversed"):
        return [text for thing in node.args for text in parts_walked(thing)]
    if isinstance(node, ast.Call) and isinstance(node.func, ast.Attribute) and node.func.attr in (
            "items", "keys", "values"):
        return parts_walked(node.func.value)
    if isinstance(node, ast.IfExp):
        return parts_walked(node.body) + parts_walked(node.orelse)
    if isinstance(node, ast.BoolOp):
        return [text for thing in node.values for text in parts_walked(thing)]
    return [ast.unparse(node)] if isinstance(node, (ast.Name, ast.Attribute, ast.Subscript)) else []


def parts_changed(node):
    """The things that a statement or expression changes, with all that stands in it, as texts."""
    found = []
    for item in ast.walk(node):
        if isinstance(item, ast.Call) and isinstance(item.func, ast.Attribute) and item.func.attr in CHANGES:
            found.append(ast.unparse(item.func.value))
        elif isinstance(item, ast.Subscript) and isinstance(item.ctx, (ast.Store, ast.Del)):
            found.append(ast.unparse(item.value))
        elif isinstance(item, ast.AugAssign):
            found.append(ast.unparse(item.target))
    return found


def other_names(function):
    """For each name of a function all names that its assignments of a bare name give the same thing."""
    same = []
    for node in ast.walk(function):
        if isinstance(node, ast.Assign):
            for target in node.targets:
                names = {ast.unparse(target), *parts_walked(node.value)}
                touching = [group for group in same if group & names]
                same = [group for group in same if not group & names] + [names.union(*touching)]
    return same


def walked_and_changed(function):
    """The things that a loop of a function goes over and changes, under any of their names."""
    same = other_names(function)
    found = []
    for node in ast.walk(function):
        if isinstance(node, (ast.For, ast.ListComp, ast.DictComp, ast.SetComp)):
            heads = [node] if isinstance(node, ast.For) else node.generators
            rows = node.body if isinstance(node, ast.For) else [node]
            changed = {text for row in rows for text in parts_changed(row)}
            for text in [text for head in heads for text in parts_walked(head.iter)]:
                names = {text}.union(*[group for group in same if text in group])
                found += [(text, name) for name in names & changed]
    return found


def functions_in(trees):
    """All functions and methods of some files, with their names."""
    return [node for tree in trees for node in ast.walk(tree) if isinstance(node, ast.FunctionDef)]


def is_quiet(function):
    """Whether a function is a property, or a double-underscore method other than __init__."""
    decorators = [ast.unparse(item) for item in function.decorator_list]
    return "property" in decorators or (function.name.startswith("__") and function.name != "__init__")


def attribute_names(trees):
    """The names of all attributes that some files assign."""
    return {node.attr for tree in trees for node in ast.walk(tree)
            if isinstance(node, ast.Attribute) and isinstance(node.ctx, ast.Store)}


def called_names(function):
    """The names by which a function calls: bare ones, and those behind a dot."""
    calls = [node.func for node in ast.walk(function) if isinstance(node, ast.Call)]
    return ({call.id for call in calls if isinstance(call, ast.Name)},
            {call.attr for call in calls if isinstance(call, ast.Attribute)})


def calls_of_held_things(trees):
    """Each name of an attribute by which a property or an operator, or what it calls, calls something."""
    functions, held = functions_in(trees), attribute_names(trees)
    waiting, seen, found = [node for node in functions if is_quiet(node)], [], []
    while waiting:
        function = waiting.pop()
        seen.append(function)
        bare, dotted = called_names(function)
        arguments = {argument.arg for argument in function.args.args}
        found += [(function.name, name) for name in sorted((dotted & held) | (bare & arguments))]
        waiting += [node for node in functions if node.name in bare | dotted and node not in seen + waiting]
    return found


class LanguageTest(unittest.TestCase):
    def test_properties_call_nothing_that_they_hold(self):
        self.assertEqual(calls_of_held_things(list(TREES.values())), [])

    def test_calls_of_held_things_are_seen(self):
        error = "class TooMany(ValueError):\n  def __init__(self, count):\n    self.count = count\n"
        for rows in ("class Heap:\n  @property\n  def counts(self):\n    return self.made.count(1)",
                     "def many(made):\n  return made.count(1)\nclass Heap:\n  def __len__(self):\n    return many(self.made)",
                     "class Heap:\n  @property\n  def first(self):\n    return self.told()\n  def told(self):\n"
                     "    return self.made.count(2)",
                     "class Heap:\n  def __eq__(self, other):\n    return other()"):
            self.assertEqual(len(calls_of_held_things([ast.parse(error), ast.parse(rows)])), 1)
        for rows in ("class Heap:\n  @property\n  def counts(self):\n    return len(self.made)",
                     "class Heap:\n  def counts(self):\n    return self.made.count(1)"):
            self.assertEqual(calls_of_held_things([ast.parse(error), ast.parse(rows)]), [])

    def test_what_a_loop_goes_over_is_not_changed_in_it(self):
        for path, tree in TREES.items():
            for node in ast.walk(tree):
                if isinstance(node, ast.FunctionDef):
                    self.assertEqual(walked_and_changed(node), [], (path, node.name))

    def test_changes_in_a_loop_are_seen(self):
        for rows in ("for x in xs:\n  xs.append(x)", "for k, x in enumerate(xs):\n  xs[k] = x",
                     "while xs:\n  ys = []\n  for x in xs:\n    ys.append(x)\n  xs = ys",
                     "for x in xs or ys:\n  del ys[0]", "for x in self.xs:\n  self.xs.pop()"):
            self.assertNotEqual(walked_and_changed(ast.parse(rows)), [])
        for rows in ("for x in list(xs):\n  xs.append(x)", "for x in xs:\n  ys.append(x)"):
            self.assertEqual(walked_and_changed(ast.parse(rows)), [])

    def test_files(self):
        self.assertLess(len(FILES), 101)
        for path in FOLDER.rglob("*"):
            if "__pycache__" not in path.parts:
                self.assertTrue(path.suffix == ".py", path)
                self.assertRegex(path.name, r"^([a-z][a-z0-9_]*|__init__)\.py$")
        for path in FILES:
            text = path.read_text(encoding="utf-8")
            self.assertEqual(set(text) - set(map(chr, range(32, 127))) - {"\n"}, set(), path)
            self.assertLess(len(text.split("\n")), 400, path)
            self.assertLess(max(len(line) for line in text.split("\n")), 121, path)

    def test_functions_are_short(self):
        for path, tree in TREES.items():
            for node in ast.walk(tree):
                if isinstance(node, ast.FunctionDef):
                    self.assertLess(node.end_lineno - node.lineno + 1, 41, (path, node.name))

    def test_module_level(self):
        for path, tree in TREES.items():
            for at, node in enumerate(tree.body):
                docstring = at == 0 and isinstance(node, ast.Expr)
                let = (ast.ImportFrom, ast.FunctionDef, ast.ClassDef, ast.Assign)
                self.assertTrue(docstring or isinstance(node, let), (path, node.lineno))
            names = top_names(tree)
            self.assertEqual(len(names), len(set(names)), path)

    def test_imports(self):
        modules = {"headamid." + path.stem: set(top_names(TREES[path])) for path in FILES}
        needs = {}
        for path, tree in TREES.items():
            needs["headamid." + path.stem] = set()
            for node in ast.walk(tree):
                if not isinstance(node, ast.ImportFrom):
                    continue
                self.assertIn(node, tree.body)
                self.assertEqual(node.level, 0)
                self.assertTrue(all(alias.asname is None for alias in node.names), path)
                if node.module in LET_LIBRARY:
                    self.assertLessEqual({alias.name for alias in node.names}, LET_LIBRARY[node.module])
                    continue
                defined = {item.name for item in TREES[FOLDER / (node.module.split(".")[1] + ".py")].body
                           if isinstance(item, (ast.ClassDef, ast.FunctionDef))}
                for alias in node.names:
                    self.assertIn(alias.name, modules[node.module])
                    self.assertTrue(alias.name in defined or alias.name.isupper(), (path, alias.name))
                needs["headamid." + path.stem].add(node.module)
        while needs:
            free = [module for module in needs if not needs[module] & set(needs)]
            self.assertTrue(free, "imports in a ring")
            for module in free:
                del needs[module]

    def test_all_imports_are_used(self):
        for path, tree in TREES.items():
            used = {node.id for node in ast.walk(tree) if isinstance(node, ast.Name)}
            for node in tree.body:
                if isinstance(node, ast.ImportFrom):
                    self.assertEqual({alias.name for alias in node.names} - used, set(), path)

    def test_names(self):
        known = set(dir(builtins)) - {"_"}
        for path, tree in TREES.items():
            bound = bound_names(tree)
            top = set(top_names(tree))
            values = {target.id for node in tree.body if isinstance(node, ast.Assign) for target in node.targets}
            self.assertEqual((bound | top) & known, set(), path)
            self.assertEqual(bound & (top - values), set(), path)
            self.assertEqual((bound | top) & NO_NAMES, set(), path)
            for node in ast.walk(tree):
                if isinstance(node, ast.Name) and node.id in known:
                    self.assertIn(node.id, LET_BUILTINS, (path, node.lineno))
                if isinstance(node, ast.FunctionDef) and node.name.startswith("__"):
                    self.assertIn(node.name, DOUBLE_UNDERSCORES, path)
                elif isinstance(node, ast.FunctionDef):
                    self.assertNotIn(node.name, known | NO_NAMES, path)
                if isinstance(node, ast.Attribute):
                    self.assertNotIn(node.attr, ("register", "mro", "elements", "open", "input", "law", "args"), path)
                    self.assertTrue(node.attr == "__init__" or not node.attr.startswith("__"), path)

    def test_generator_names_are_unlike(self):
        names = [node.name for tree in TREES.values() for node in ast.walk(tree) if isinstance(node, ast.FunctionDef)]
        for tree in TREES.values():
            for node in ast.walk(tree):
                if isinstance(node, ast.FunctionDef) and any(
                        isinstance(item, (ast.Yield, ast.YieldFrom)) for item in ast.walk(node)):
                    self.assertEqual(names.count(node.name), 1, node.name)

    def test_methods_that_are_called(self):
        own = {node.name for tree in TREES.values() for node in ast.walk(tree) if isinstance(node, ast.FunctionDef)}
        for path, tree in TREES.items():
            for node in ast.walk(tree):
                if isinstance(node, ast.Call) and isinstance(node.func, ast.Attribute):
                    self.assertIn(node.func.attr, LET_METHODS | own, (path, node.lineno))

    def test_statements(self):
        for path, tree in TREES.items():
            for node in ast.walk(tree):
                self.assertNotIsInstance(node, NO_NODES, (path, getattr(node, "lineno", 0)))
                if isinstance(node, (ast.FunctionDef, ast.ClassDef)):
                    let = {"property", "staticmethod", "classmethod"}
                    self.assertLessEqual({ast.unparse(item) for item in node.decorator_list}, let, path)
                if isinstance(node, ast.Compare) and any(isinstance(op, (ast.Is, ast.IsNot)) for op in node.ops):
                    for thing in node.comparators:
                        self.assertIn(ast.unparse(thing), ("None", "True", "False"), (path, node.lineno))
                if isinstance(node, ast.Raise) and node.exc is not None:
                    self.assertIsInstance(node.exc, ast.Call, (path, node.lineno))
                if isinstance(node, ast.BinOp) and isinstance(node.op, ast.Pow):
                    self.assertIsInstance(node.right, ast.Constant, (path, node.lineno))

    def test_words_and_strings(self):
        for path, tree in TREES.items():
            for number, line in enumerate(code_lines(path), 1):
                found = [word for word in NO_WORDS if re.search(r"\b" + word + r"\b", line)]
                self.assertEqual(found, [], (path, number))
                self.assertNotRegex(line, r"_wall\b|_WallAttr")
            for node in ast.walk(tree):
                self.assertFalse(isinstance(node, ast.Constant) and isinstance(node.value, float), path)
                if isinstance(node, ast.Constant) and isinstance(node.value, str):
                    self.assertNotIn("%", node.value, path)
                    self.assertFalse(node.value.startswith("__") and node.value.endswith("__"), path)


if __name__ == "__main__":
    unittest.main()
