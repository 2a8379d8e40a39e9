"""What of ../shared/LANGUAGE.md can be seen by a plain look at the package's files."""

import ast
import builtins
import pathlib
import re
import unittest

PACKAGE = pathlib.Path(__file__).resolve().parent.parent / "lastwaltz"
FILES = sorted(path for path in PACKAGE.rglob("*") if path.is_file() and "__pycache__" not in path.parts)

OWN_NAMES = set("""
    len range enumerate zip min max sum abs sorted reversed int str bool bytes list tuple dict set
    frozenset isinstance ord repr any all divmod Exception ValueError TypeError KeyError IndexError
    LookupError ZeroDivisionError ArithmeticError OverflowError RuntimeError NotImplementedError
    AttributeError StopIteration
""".split())
TWO_UNDERSCORES = {"__init__", "__eq__", "__repr__", "__str__", "__len__", "__all__", "__version__"}
BANNED_WORDS = re.compile(
    r"\b(type|typing|typing_extensions|enum|Enum|IntEnum|StrEnum|Flag|IntFlag|Generic|Protocol|ABC|ABCMeta"
    r"|namedtuple|NamedTuple|TypedDict|TYPE_CHECKING|abstractmethod)\b|dataclass|overload|contextmanager"
)
BANNED_FORMS = (
    ast.With, ast.Match, ast.Global, ast.Nonlocal, ast.Yield, ast.YieldFrom, ast.Await, ast.AsyncFunctionDef,
    ast.GeneratorExp, ast.NamedExpr, ast.Div, ast.MatMult,
)

STATEMENTS = (
    ast.FunctionDef, ast.ClassDef, ast.Return, ast.Delete, ast.Assign, ast.AugAssign, ast.For, ast.While, ast.If,
    ast.Raise, ast.Try, ast.Assert, ast.ImportFrom, ast.Expr, ast.Pass, ast.Break, ast.Continue,
)
PLAIN_VALUES = (ast.Constant, ast.List, ast.Tuple, ast.Dict, ast.Name, ast.UnaryOp, ast.BinOp)
METHODS = set("""
    append clear copy count endswith extend find get index insert isalnum isalpha isdigit islower isspace isupper
    items join keys ljust lower lstrip partition pop remove replace reverse rfind rjust rpartition rsplit rstrip
    setdefault split splitlines startswith strip update upper values zfill bit_length add discard sort
""".split())
CHANGING = set("append clear extend insert pop remove reverse setdefault update sort add discard".split())
WALKED = {"zip", "enumerate", "reversed", "range"}
WALKERS = {"list", "tuple", "dict", "sorted", "sum", "any", "all", "enumerate", "zip", "bytes", "min", "max"}
UNUSED_NAMES = set("""
    register mro elements open input version_info with_traceback add_note attrgetter breakpoint builtins compile
    copyright credits delattr dir eval exec exit gc getattr globals hasattr help id importlib license locals
    methodcaller os quit setattr super vars sys format format_map
""".split())


MODULES = set("""
    errors rows hall rings homeway chase morning looker keeper past figures letters book desk
""".split())
FILE_NAMES = set("""
    test tests testing site conftest sitecustomize usercustomize typing typing_extensions enum namedtuple
    len filter format range sum int property type
""".split())
KEYWORDS = {
    "sorted": {"key", "reverse"}, "min": {"key", "default"}, "max": {"key", "default"}, "sum": {"start"},
    "enumerate": {"start"}, "zip": {"strict"},
}
READING = set("get index count copy".split())


def trees():
    return [(path.name, ast.parse(path.read_text(encoding="ascii"))) for path in FILES]


def names_in(node):
    """The names that a node binds or asks, of whatever sort."""
    if isinstance(node, ast.Name):
        return [node.id]
    if isinstance(node, ast.Attribute):
        return [node.attr]
    if isinstance(node, (ast.FunctionDef, ast.ClassDef)):
        return [node.name]
    if isinstance(node, ast.arg):
        return [node.arg]
    return []


def defs_in(tree):
    return [node for node in ast.walk(tree) if isinstance(node, ast.FunctionDef)]


def locals_of(node):
    """The names that a def gives: parameters, assignments, loops."""
    given = [part.arg for part in ast.walk(node) if isinstance(part, ast.arg)]
    stored = [part.id for part in ast.walk(node) if isinstance(part, ast.Name) and isinstance(part.ctx, ast.Store)]
    return given + stored


def top_names(tree):
    """The names that a file's own top binds, an import's too, as often as it does."""
    names = []
    for node in tree.body:
        if isinstance(node, (ast.FunctionDef, ast.ClassDef)):
            names.append(node.name)
        if isinstance(node, ast.ImportFrom):
            names.extend(alias.asname or alias.name for alias in node.names)
        if isinstance(node, ast.Assign):
            names.extend(target.id for target in node.targets)
    return names


def imports_of(tree):
    return [node for node in tree.body if isinstance(node, ast.ImportFrom) and node.module != "__future__"]


def parents_in(tree):
    return {part: node for node in ast.walk(tree) for part in ast.iter_child_nodes(node)}


def called_name(node):
    """The plain name that a call calls, or None."""
    return node.func.id if isinstance(node, ast.Call) and isinstance(node.func, ast.Name) else None


def called_method(node):
    return node.func.attr if isinstance(node, ast.Call) and isinstance(node.func, ast.Attribute) else None


class TestFiles(unittest.TestCase):

    def test_all_modules_so_far_are_looked_at(self):
        names = {path.stem for path in FILES}
        self.assertLessEqual(MODULES, names)

    def test_only_plain_files(self):
        self.assertIn(PACKAGE / "__init__.py", FILES)
        for path in FILES:
            self.assertRegex(path.name, r"^(__init__|__main__|[a-z][a-z0-9_]*)\.py$")

    def test_signs_and_sizes(self):
        for path in FILES:
            text = path.read_text(encoding="utf-8")
            self.assertRegex(text, r"\A[ -~\n]*\Z", path.name)
            self.assertLessEqual(len(text.splitlines()), 400, path.name)
            self.assertLessEqual(max(len(row) for row in text.splitlines()), 120, path.name)

    def test_banned_words(self):
        for path in FILES:
            self.assertIsNone(BANNED_WORDS.search(path.read_text(encoding="utf-8")), path.name)


class TestForms(unittest.TestCase):

    def test_imports_are_of_the_package(self):
        for name, tree in trees():
            for node in ast.walk(tree):
                self.assertNotIsInstance(node, ast.Import, name)
                if isinstance(node, ast.ImportFrom):
                    self.assertIn(node, tree.body, name)
                    self.assertEqual((node.level, node.module.split(".")[0]), (0, "lastwaltz"), name)

    def test_no_banned_form(self):
        for name, tree in trees():
            for node in ast.walk(tree):
                self.assertNotIsInstance(node, BANNED_FORMS, name)
                self.assertFalse(getattr(node, "decorator_list", []), name)
                if isinstance(node, (ast.For, ast.While)):
                    self.assertEqual(node.orelse, [], name)
                if isinstance(node, ast.Constant):
                    self.assertNotIsInstance(node.value, (float, complex), name)
                    self.assertNotIn("%", str(node.value), name)

    def test_functions_are_short(self):
        for name, tree in trees():
            for node in ast.walk(tree):
                if isinstance(node, ast.FunctionDef):
                    self.assertLessEqual(node.end_lineno - node.lineno + 1, 40, (name, node.name))

    def test_names_are_plain(self):
        for name, tree in trees():
            for node in ast.walk(tree):
                for word in names_in(node):
                    self.assertTrue(not word.startswith("_") or word in TWO_UNDERSCORES, (name, word))

    def test_only_the_listed_names_of_python(self):
        others = set(dir(builtins)) - OWN_NAMES
        for name, tree in trees():
            for node in ast.walk(tree):
                if isinstance(node, ast.Name):
                    self.assertNotIn(node.id, others, name)

    def test_python_s_names_keep_their_meaning(self):
        for name, tree in trees():
            for node in ast.walk(tree):
                if isinstance(node, ast.arg):
                    self.assertFalse(hasattr(builtins, node.arg), (name, node.arg))
                if isinstance(node, ast.Name) and isinstance(node.ctx, ast.Store):
                    self.assertFalse(hasattr(builtins, node.id), (name, node.id))

    def test_no_name_is_a_method_and_a_value(self):
        methods, values = set(), set()
        for name, tree in trees():
            for node in ast.walk(tree):
                if isinstance(node, ast.ClassDef):
                    methods.update(part.name for part in node.body if isinstance(part, ast.FunctionDef))
                if isinstance(node, ast.Attribute) and isinstance(node.ctx, ast.Store):
                    values.add(node.attr)
        self.assertEqual(methods & values, set())


class TestTops(unittest.TestCase):
    """L2, L3, L15, L16."""

    def test_only_what_may_stand_at_a_top(self):
        for name, tree in trees():
            for at, node in enumerate(tree.body):
                if isinstance(node, ast.Expr):
                    self.assertEqual((at, type(node.value)), (0, ast.Constant), name)
                elif isinstance(node, ast.Assign):
                    self.assertIsInstance(node.value, PLAIN_VALUES, name)
                else:
                    self.assertIsInstance(node, (ast.ImportFrom, ast.FunctionDef, ast.ClassDef), name)

    def test_each_name_is_bound_once(self):
        for name, tree in trees():
            names = top_names(tree)
            self.assertEqual(sorted(names), sorted(set(names)), name)

    def test_classes_stand_at_the_top(self):
        for name, tree in trees():
            for node in ast.walk(tree):
                if isinstance(node, ast.ClassDef):
                    self.assertIn(node, tree.body, name)
                    self.assertLessEqual(len(node.bases), 1, name)
                    self.assertEqual(node.keywords, [], name)
                    for part in node.body:
                        docstring = isinstance(part, ast.Expr) and isinstance(part.value, ast.Constant)
                        self.assertTrue(docstring or isinstance(part, ast.FunctionDef), (name, node.name))

    def test_names_are_drawn_from_the_file_that_defines_them(self):
        defined = {}
        for name, tree in trees():
            drawn = [alias.name for node in imports_of(tree) for alias in node.names]
            defined["lastwaltz." + name[:-3]] = set(top_names(tree)) - set(drawn)
        for name, tree in trees():
            for node in imports_of(tree):
                for alias in node.names:
                    self.assertIn(alias.name, defined[node.module], name)

    def test_no_two_files_draw_from_one_another(self):
        draws = {"lastwaltz." + name[:-3]: {node.module for node in imports_of(tree)} for name, tree in trees()}
        while draws:
            free = [name for name in draws if not draws[name] & set(draws)]
            self.assertTrue(free, draws)
            for name in free:
                del draws[name]


class TestDefs(unittest.TestCase):
    """L4, L6, L8, L12, L15, L17, L20."""

    def test_plain_parameters(self):
        for name, tree in trees():
            for node in ast.walk(tree):
                if isinstance(node, ast.arguments):
                    self.assertEqual((node.vararg, node.kwarg, node.posonlyargs), (None, None, []), name)
                    for default in node.defaults:
                        self.assertIsInstance(default, PLAIN_VALUES, name)

    def test_only_the_listed_statements(self):
        for name, tree in trees():
            for node in ast.walk(tree):
                if isinstance(node, ast.stmt):
                    self.assertIsInstance(node, STATEMENTS, (name, node.lineno))
                if isinstance(node, ast.Expr) and not isinstance(node.value, ast.Constant):
                    self.assertIsInstance(node.value, ast.Call, (name, node.lineno))

    def test_given_are_names_items_and_values(self):
        for name, tree in trees():
            for node in ast.walk(tree):
                if isinstance(node, (ast.Tuple, ast.List)) and isinstance(node.ctx, ast.Store):
                    for part in node.elts:
                        self.assertIsInstance(part, (ast.Name, ast.Tuple, ast.Starred), (name, node.lineno))

    def test_locals_are_called_like_nothing_of_the_top(self):
        for name, tree in trees():
            drawn = [alias.name for node in imports_of(tree) for alias in node.names]
            classes = [node.name for node in tree.body if isinstance(node, ast.ClassDef)]
            for node in defs_in(tree):
                self.assertEqual(set(locals_of(node)) & set(drawn + classes), set(), (name, node.name))

    def test_names_that_are_not_used(self):
        for name, tree in trees():
            for node in ast.walk(tree):
                for word in names_in(node):
                    self.assertNotIn(word, UNUSED_NAMES, name)

    def test_is_stands_beside_none_true_and_false(self):
        for name, tree in trees():
            for node in ast.walk(tree):
                if isinstance(node, ast.Compare) and any(isinstance(sign, (ast.Is, ast.IsNot)) for sign in node.ops):
                    self.assertIsInstance(node.comparators[-1], ast.Constant, (name, node.lineno))
                    self.assertIn(node.comparators[-1].value, (None, True, False), (name, node.lineno))

    def test_lambdas_stand_one_on_a_line(self):
        for name, tree in trees():
            lines = [node.lineno for node in ast.walk(tree) if isinstance(node, ast.Lambda)]
            self.assertEqual(sorted(lines), sorted(set(lines)), name)

    def test_raise_makes_its_error_on_the_spot(self):
        for name, tree in trees():
            for node in ast.walk(tree):
                if isinstance(node, ast.Raise) and node.exc is not None:
                    self.assertIsNotNone(called_name(node.exc), (name, node.lineno))


class TestCalls(unittest.TestCase):
    """L22, L23, L24, L25."""

    def own_methods(self):
        return {part.name for name, tree in trees() for node in tree.body if isinstance(node, ast.ClassDef)
                for part in node.body if isinstance(part, ast.FunctionDef)}

    def test_only_the_listed_methods(self):
        allowed = METHODS | self.own_methods()
        for name, tree in trees():
            for node in ast.walk(tree):
                if called_method(node) is not None:
                    self.assertIn(called_method(node), allowed, (name, node.lineno))

    def test_no_star_in_a_call(self):
        for name, tree in trees():
            for node in ast.walk(tree):
                if isinstance(node, ast.Call):
                    self.assertFalse([part for part in node.args if isinstance(part, ast.Starred)], name)
                    self.assertTrue(all(keyword.arg for keyword in node.keywords), name)

    def test_python_s_own_are_called_and_not_kept(self):
        own = {word for word in OWN_NAMES if word.islower()}
        for name, tree in trees():
            parents = parents_in(tree)
            for node in ast.walk(tree):
                if isinstance(node, ast.Name) and node.id in own:
                    parent = parents[node]
                    asked = called_name(parent) == "isinstance"
                    self.assertTrue(called_name(parent) == node.id or asked or isinstance(parent, ast.keyword),
                                    (name, node.lineno))

    def test_walked_at_once(self):
        for name, tree in trees():
            parents = parents_in(tree)
            for node in ast.walk(tree):
                if called_name(node) in WALKED or called_method(node) in ("items", "keys", "values"):
                    parent = parents[node]
                    walks = isinstance(parent, (ast.For, ast.comprehension)) and parent.iter == node
                    asked = isinstance(parent, ast.Compare) and isinstance(parent.ops[0], (ast.In, ast.NotIn))
                    self.assertTrue(walks or asked or called_name(parent) in WALKERS, (name, node.lineno))

    def test_what_is_walked_is_not_changed(self):
        for name, tree in trees():
            for loop in ast.walk(tree):
                if isinstance(loop, ast.For):
                    walked = {part.id for part in ast.walk(loop.iter) if isinstance(part, ast.Name)}
                    for row in loop.body:
                        for node in ast.walk(row):
                            self.assertFalse(self.changed_by(node) & walked, (name, node))

    def changed_by(self, node):
        """The names of the things that a node changes in place."""
        if called_method(node) in CHANGING and isinstance(node.func.value, ast.Name):
            return {node.func.value.id}
        if isinstance(node, ast.Subscript) and not isinstance(node.ctx, ast.Load) and isinstance(node.value, ast.Name):
            return {node.value.id}
        return set()

    def test_sets_are_kept_as_told(self):
        for name, tree in trees():
            parents = parents_in(tree)
            for node in defs_in(tree):
                kept = [part.targets[0].id for part in ast.walk(node)
                        if isinstance(part, ast.Assign) and called_name(part.value) == "set"]
                self.assertEqual(sorted(kept), sorted(set(kept)), (name, node.name))
                for part in ast.walk(node):
                    if isinstance(part, ast.Name) and part.id in kept:
                        self.assertTrue(self.set_use(part, parents), (name, part.lineno))

    def set_use(self, node, parents):
        """True where a kept set is given, added to, asked by in, or told by len or sorted."""
        parent = parents[node]
        if isinstance(parent, ast.Attribute):
            return parent.attr in ("add", "discard") and isinstance(parents[parents[parent]], ast.Expr)
        if isinstance(parent, ast.Compare):
            return isinstance(parent.ops[0], (ast.In, ast.NotIn)) and parent.comparators == [node]
        return isinstance(parent, ast.Assign) or called_name(parent) in ("len", "sorted")

    def test_a_set_that_is_not_kept_is_asked_at_once(self):
        for name, tree in trees():
            parents = parents_in(tree)
            for node in ast.walk(tree):
                if called_name(node) == "set" or isinstance(node, (ast.Set, ast.SetComp)):
                    parent = parents[node]
                    asked = isinstance(parent, (ast.Compare, ast.BinOp, ast.Assign))
                    self.assertTrue(asked or called_name(parent) in ("len", "sorted"), (name, node.lineno))


def classes_in_package():
    """The nodes of all classes by their names."""
    return {node.name: node for name, tree in trees() for node in tree.body if isinstance(node, ast.ClassDef)}


def methods_in(node):
    return {part.name: part for part in node.body if isinstance(part, ast.FunctionDef)}


def error_classes():
    """The names of the package's own error classes."""
    found = {"ValueError", "Exception"}
    for name, node in classes_in_package().items():
        if node.bases and node.bases[0].id in found:
            found.add(name)
    return found - {"ValueError", "Exception"}


def sizes_of(node, method=False):
    """The least and the greatest number of things that a def takes."""
    takes = len(node.args.args) - (1 if method else 0)
    return takes - len(node.args.defaults), takes


class TestClasses(unittest.TestCase):
    """L5, L18, L26, L28."""

    def test_only_the_listed_methods_with_two_underscores(self):
        for name, tree in trees():
            for node in defs_in(tree):
                if node.name.startswith("__"):
                    self.assertIn(node.name, TWO_UNDERSCORES - {"__all__", "__version__"}, name)

    def test_no_method_stands_twice(self):
        for name, node in classes_in_package().items():
            names = [part.name for part in node.body if isinstance(part, ast.FunctionDef)]
            self.assertEqual(sorted(names), sorted(set(names)), name)

    def test_init_gives_back_nothing(self):
        for name, node in classes_in_package().items():
            init = methods_in(node).get("__init__")
            if init is not None:
                self.assertFalse([part for part in ast.walk(init) if isinstance(part, ast.Return)], name)

    def test_values_that_are_asked_are_given(self):
        methods = {word for node in classes_in_package().values() for word in methods_in(node)}
        given = {node.attr for name, tree in trees() for node in ast.walk(tree)
                 if isinstance(node, ast.Attribute) and isinstance(node.ctx, ast.Store)}
        for name, tree in trees():
            parents = parents_in(tree)
            for node in ast.walk(tree):
                if isinstance(node, ast.Attribute) and called_method(parents[node]) != node.attr:
                    self.assertIn(node.attr, given, (name, node.lineno))
                    self.assertNotIn(node.attr, methods, (name, node.lineno))

    def test_values_and_methods_are_not_called_like_python_s(self):
        taken = {word for kind in (str, int, list, dict, set, bytes, tuple) for word in dir(kind)}
        given = {node.attr for name, tree in trees() for node in ast.walk(tree)
                 if isinstance(node, ast.Attribute) and isinstance(node.ctx, ast.Store)}
        methods = {word for node in classes_in_package().values() for word in methods_in(node)}
        self.assertEqual((given | methods - TWO_UNDERSCORES) & taken, set())

    def test_classes_are_called_or_named_by_handlers_alone(self):
        classes = set(classes_in_package())
        for name, tree in trees():
            parents = parents_in(tree)
            for node in ast.walk(tree):
                if isinstance(node, ast.Name) and node.id in classes:
                    parent = parents[node]
                    if isinstance(parent, ast.Tuple):
                        parent = parents[parent]
                    base = isinstance(parent, ast.Attribute) and parent.attr == "__init__"
                    called = called_name(parent) in (node.id, "isinstance")
                    self.assertTrue(base or called or isinstance(parent, (ast.ClassDef, ast.ExceptHandler)),
                                    (name, node.lineno))


class TestErrors(unittest.TestCase):
    """L19."""

    def test_handlers_take_own_errors_by_name(self):
        own = error_classes() | {"KeyError", "ZeroDivisionError", "StopIteration"}
        for name, tree in trees():
            for node in ast.walk(tree):
                if isinstance(node, ast.ExceptHandler):
                    self.assertIsNotNone(node.type, (name, node.lineno))
                    taken = node.type.elts if isinstance(node.type, ast.Tuple) else [node.type]
                    self.assertTrue(taken, (name, node.lineno))
                    for part in taken:
                        self.assertIsInstance(part, ast.Name, (name, node.lineno))
                        self.assertIn(part.id, own, (name, node.lineno))
                    self.assertIsNone(node.name, (name, node.lineno))

    def test_own_errors_are_raised(self):
        for name, tree in trees():
            for node in ast.walk(tree):
                if isinstance(node, ast.Raise) and node.exc is not None:
                    self.assertIn(called_name(node.exc), error_classes(), (name, node.lineno))
                    self.assertIsNone(node.cause, (name, node.lineno))

    def test_nothing_stands_in_a_finally(self):
        for name, tree in trees():
            for node in ast.walk(tree):
                if isinstance(node, ast.Try):
                    self.assertEqual(node.finalbody, [], (name, node.lineno))


class TestKept(unittest.TestCase):
    """L3 and L15: what stands at a file's top is plain and is only read."""

    def tops(self, tree):
        return {node.targets[0].id: node.value for node in tree.body if isinstance(node, ast.Assign)}

    def test_tops_are_plain(self):
        for name, tree in trees():
            defs = {node.name for node in tree.body if isinstance(node, ast.FunctionDef)}
            for word, value in self.tops(tree).items():
                for part in ast.walk(value):
                    if part != value:
                        self.assertNotIsInstance(part, (ast.List, ast.Dict), (name, word))
                    self.assertNotIsInstance(part, (ast.Call, ast.Set, ast.ListComp, ast.Lambda), (name, word))
                    if isinstance(part, ast.Name):
                        self.assertIn(part.id, defs | set(self.tops(tree)), (name, word))

    def test_lists_and_dicts_of_a_top_are_read_on_the_spot(self):
        held = {word for name, tree in trees() for word, value in self.tops(tree).items()
                if isinstance(value, (ast.List, ast.Dict))}
        for name, tree in trees():
            parents = parents_in(tree)
            for node in ast.walk(tree):
                if isinstance(node, ast.Name) and node.id in held and isinstance(node.ctx, ast.Load):
                    self.assertTrue(self.only_reads(node, parents[node]), (name, node.lineno))

    def only_reads(self, node, parent):
        if isinstance(parent, ast.Subscript):
            return parent.value == node and isinstance(parent.ctx, ast.Load)
        if isinstance(parent, ast.Attribute):
            return parent.attr in READING
        if isinstance(parent, (ast.For, ast.comprehension)):
            return parent.iter == node
        return isinstance(parent, ast.Compare) or called_name(parent) in ("len", "list", "dict", "sorted", "tuple")

    def test_files_are_called_plainly(self):
        for path in FILES:
            self.assertNotIn(path.stem, FILE_NAMES)
            self.assertFalse(path.stem.startswith(("law_", "test_")), path.name)
            self.assertEqual(path.parent, PACKAGE)


class TestHandedIn(unittest.TestCase):
    """L4, L22: each call hands in what is taken."""

    def test_keywords_of_python_s_own(self):
        for name, tree in trees():
            for node in ast.walk(tree):
                if isinstance(node, ast.Call) and node.keywords:
                    words = {keyword.arg for keyword in node.keywords}
                    self.assertLessEqual(words, KEYWORDS.get(called_name(node), set()), (name, node.lineno))

    def test_own_defs_and_classes_are_handed_what_they_take(self):
        sizes = {node.name: sizes_of(node) for name, tree in trees() for node in tree.body
                 if isinstance(node, ast.FunctionDef)}
        for word, node in classes_in_package().items():
            init = methods_in(node).get("__init__")
            if init is not None:
                sizes[word] = sizes_of(init, method=True)
            elif word in error_classes():
                sizes[word] = (1, 1)
            else:
                sizes[word] = (0, 0)
        for name, tree in trees():
            for node in ast.walk(tree):
                if called_name(node) in sizes:
                    least, most = sizes[called_name(node)]
                    self.assertTrue(least <= len(node.args) <= most, (name, node.lineno))

    def test_own_methods_are_handed_what_they_take(self):
        sizes = {}
        for node in classes_in_package().values():
            for word, part in methods_in(node).items():
                if word != "__init__":
                    sizes.setdefault(word, set()).add(sizes_of(part, method=True))
        for name, tree in trees():
            for node in ast.walk(tree):
                if called_method(node) in sizes:
                    for least, most in sizes[called_method(node)]:
                        self.assertTrue(least <= len(node.args) <= most, (name, node.lineno))


class TestTexts(unittest.TestCase):
    """L7, L27."""

    def test_f_strings_are_plain(self):
        for name, tree in trees():
            for node in ast.walk(tree):
                if isinstance(node, ast.FormattedValue):
                    self.assertIsNone(node.format_spec, (name, node.lineno))
                    for part in ast.walk(node.value):
                        self.assertFalse(isinstance(part, ast.Constant) and isinstance(part.value, (str, bytes)),
                                         (name, node.lineno))
                        self.assertNotIsInstance(part, ast.JoinedStr, (name, node.lineno))

    def test_escapes(self):
        for path in FILES:
            for found in re.finditer(r"\\(.)", path.read_text(encoding="ascii"), re.DOTALL):
                self.assertIn(found.group(1), "nt\\\"'", path.name)

    def test_no_power_and_no_bytes(self):
        for name, tree in trees():
            for node in ast.walk(tree):
                self.assertNotIsInstance(node, ast.Pow, name)
                self.assertFalse(isinstance(node, ast.Constant) and isinstance(node.value, bytes), name)

    def test_comprehensions_are_small_and_stand_in_a_def(self):
        for name, tree in trees():
            within = {part for node in defs_in(tree) for part in ast.walk(node)}
            for node in ast.walk(tree):
                if isinstance(node, (ast.ListComp, ast.DictComp, ast.SetComp)):
                    self.assertIn(node, within, name)
                    self.assertLessEqual(len(node.generators), 6, name)
                    self.assertLessEqual(sum(len(part.ifs) for part in node.generators), 12, name)

    def test_no_annotation(self):
        for name, tree in trees():
            for node in ast.walk(tree):
                self.assertNotIsInstance(node, ast.AnnAssign, name)
                self.assertIsNone(getattr(node, "annotation", None), name)
                self.assertIsNone(getattr(node, "returns", None), name)


if __name__ == "__main__":
    unittest.main()
