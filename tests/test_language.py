"""The files of the package stay within the plain part of Python that they are written in."""

import ast
import builtins
import pathlib
import re
import unittest

PACKAGE = pathlib.Path(__file__).resolve().parent.parent / "upsanddowns"
FILES = sorted(PACKAGE.rglob("*.py"))
TREES = {path: ast.parse(path.read_text(encoding="utf-8")) for path in FILES}

LIBRARY = {
    "heapq": {"heappush", "heappop", "heapify", "heapreplace", "heappushpop"},
    "math": {"gcd", "lcm", "isqrt", "comb", "perm", "factorial"},
}
BUILTINS = set(
    "len range enumerate zip min max sum abs sorted reversed int str bool list tuple dict set isinstance ord repr any "
    "all divmod pow iter next map property classmethod staticmethod super Exception ValueError TypeError KeyError "
    "IndexError LookupError ZeroDivisionError ArithmeticError OverflowError RuntimeError NotImplementedError "
    "NotImplemented".split()
)
METHODS = set(
    "append clear copy count endswith extend find get index insert isalnum isalpha isdigit islower isspace isupper items "
    "join keys ljust lower lstrip partition pop remove replace reverse rfind rjust rpartition rsplit rstrip setdefault "
    "split splitlines startswith strip update upper values zfill bit_length title capitalize swapcase casefold center "
    "expandtabs removeprefix removesuffix rindex isascii isdecimal isnumeric istitle isidentifier isprintable".split()
)
DUNDERS = set(
    "init eq repr str len enter exit call iter lt le gt ge ne add sub mul floordiv mod pow and or xor lshift rshift neg "
    "pos invert abs bool contains getitem setitem radd rsub rmul".split()
)
BARRED = set(
    "register mro elements open input law version_info with_traceback add_note attrgetter breakpoint builtins compile "
    "copyright credits delattr dir eval exec exit gc globals help id importlib license locals methodcaller os quit "
    "type vars sys object hash filter round print chr bytes frozenset slice format callable".split()
)
BARRED_WORDS = re.compile(
    r"\b(type|typing|typing_extensions|enum|Enum|IntEnum|StrEnum|Flag|IntFlag|Generic|Protocol|ABC|ABCMeta|namedtuple|"
    r"NamedTuple|TypedDict|TYPE_CHECKING|abstractmethod)\b|dataclass|overload|contextmanager|\(type\)|Meta|metaclass="
)
# Values that are not iterated at once or that a generator expression would hide; the package does without.
BARRED_NODES = (
    ast.GeneratorExp, ast.Set, ast.SetComp, ast.Lambda, ast.Global, ast.Nonlocal, ast.AsyncFunctionDef, ast.Match,
    ast.NamedExpr, ast.Div, ast.MatMult, ast.AnnAssign, ast.Delete, ast.TryStar,
)


def functions_of(tree):
    return [node for node in ast.walk(tree) if isinstance(node, ast.FunctionDef)]


def own_names():
    """The names of the methods and functions that the package defines."""
    return {node.name for tree in TREES.values() for node in functions_of(tree)}


def module_of(path):
    return "upsanddowns" if path.stem == "__init__" else f"upsanddowns.{path.stem}"


def bound_in(tree):
    """The names that a file binds at its top, without its imports."""
    found = []
    for node in tree.body:
        if isinstance(node, (ast.FunctionDef, ast.ClassDef)):
            found.append(node.name)
        elif isinstance(node, ast.Assign):
            found.extend(target.id for target in node.targets)
    return found


def imports_of(tree):
    return [node for node in ast.walk(tree) if isinstance(node, (ast.Import, ast.ImportFrom))]


def docstrings_of(tree):
    found = set()
    for node in ast.walk(tree):
        if isinstance(node, (ast.Module, ast.ClassDef, ast.FunctionDef)) and ast.get_docstring(node) is not None:
            found.add(id(node.body[0].value))
    return found


def decorators_of(node):
    """The decorators of a function as written, the setter of a property without the property's name."""
    return [ast.unparse(one).replace(f"{node.name}.", "") for one in node.decorator_list]


def local_names(function):
    """The parameters and the variables of a function."""
    spots = function.args
    found = {spot.arg for spot in spots.posonlyargs + spots.args + spots.kwonlyargs}
    found |= {spot.arg for spot in (spots.vararg, spots.kwarg) if spot is not None}
    found |= {node.id for node in ast.walk(function) if isinstance(node, ast.Name) and isinstance(node.ctx, ast.Store)}
    return found | {node.name for node in ast.walk(function) if isinstance(node, ast.ExceptHandler) and node.name}


CHANGING = ("append", "extend", "insert", "pop", "remove", "clear", "reverse", "update", "setdefault")


def held_name(node):
    """The name by which a value is held: a variable, or the last attribute."""
    return getattr(node, "id", getattr(node, "attr", None))


def names_in(node):
    """All names and attributes in an expression."""
    return {held_name(one) for one in ast.walk(node) if isinstance(one, (ast.Name, ast.Attribute))}


def changed_in(rows):
    """The names whose lists or dicts are changed in these statements."""
    found = set()
    for one in ast.walk(ast.Module(body=rows, type_ignores=[])):
        if isinstance(one, ast.Call) and isinstance(one.func, ast.Attribute) and one.func.attr in CHANGING:
            found.add(held_name(one.func.value))
        if isinstance(one, ast.Subscript) and isinstance(one.ctx, (ast.Store, ast.Del)):
            found.add(held_name(one.value))
    return found - {None}


def choices_of(value):
    """The names of which a value may be one, without any copy between."""
    if isinstance(value, (ast.Name, ast.Attribute)):
        return [held_name(value)]
    if isinstance(value, ast.IfExp):
        return choices_of(value.body) + choices_of(value.orelse)
    if isinstance(value, ast.BoolOp):
        return [name for one in value.values for name in choices_of(one)]
    return []


def grouped_names(function):
    """The names of a function that may hold one value, each with a common name of its group."""
    groups = {}
    for node in ast.walk(function):
        if isinstance(node, ast.Assign):
            names = [name for one in node.targets + [node.value] for name in choices_of(one)]
            roots = [groups.setdefault(name, name) for name in names]
            groups = {name: roots[0] if root in roots else root for name, root in groups.items()}
    return groups


class FilesTest(unittest.TestCase):
    def test_folder(self):
        for path in PACKAGE.rglob("*"):
            if "__pycache__" not in path.parts:
                self.assertTrue(path.is_file() and re.fullmatch(r"[a-z_][a-z0-9_]*\.py", path.name), msg=path)

    def test_sizes_and_characters(self):
        for path in FILES:
            text = path.read_text(encoding="utf-8")
            lines = text.split("\n")
            self.assertLessEqual(len(lines) - 1, 399, msg=path)
            self.assertLessEqual(max(len(line) for line in lines), 120, msg=path)
            self.assertTrue(all(" " <= sign <= "~" or sign == "\n" for sign in text), msg=path)
            for node in functions_of(TREES[path]):
                self.assertLessEqual(node.end_lineno - node.lineno + 1, 40, msg=(path, node.name))

    def test_words(self):
        for path in FILES:
            text = path.read_text(encoding="utf-8")
            self.assertIsNone(BARRED_WORDS.search(text), msg=path)


class ImportsTest(unittest.TestCase):
    def test_forms(self):
        bound = {module_of(path): bound_in(tree) for path, tree in TREES.items()}
        for path, tree in TREES.items():
            for node in imports_of(tree):
                self.assertIn(node, tree.body, msg=path)
                self.assertIsInstance(node, ast.ImportFrom, msg=path)
                self.assertEqual(node.level, 0)
                for name in node.names:
                    self.assertIsNone(name.asname, msg=path)
                    known = LIBRARY.get(node.module) or bound.get(node.module)
                    self.assertIn(name.name, known, msg=path)

    def test_no_name_twice(self):
        for path, tree in TREES.items():
            names = bound_in(tree) + [name.name for node in imports_of(tree) for name in node.names]
            self.assertEqual(len(names), len(set(names)), msg=path)

    def test_used(self):
        for path, tree in TREES.items():
            used = {node.id for node in ast.walk(tree) if isinstance(node, ast.Name)}
            for node in imports_of(tree):
                for name in node.names:
                    self.assertIn(name.name, used, msg=path)

    def test_no_rings(self):
        graph = {module_of(path): {node.module for node in imports_of(tree)} for path, tree in TREES.items()}
        done = set()
        while graph:
            free = [name for name, needs in graph.items() if not (needs - done) & set(graph)]
            self.assertNotEqual(free, [], msg=graph)
            for name in free:
                done.add(name)
                del graph[name]

    def test_library_is_called(self):
        names = set().union(*LIBRARY.values())
        for path, tree in TREES.items():
            called = {id(node.func) for node in ast.walk(tree) if isinstance(node, ast.Call)}
            for node in ast.walk(tree):
                if isinstance(node, ast.Name) and node.id in names:
                    self.assertIn(id(node), called, msg=path)
            for node in ast.walk(tree):
                if isinstance(node, ast.Call) and isinstance(node.func, ast.Name) and node.func.id in names:
                    self.assertEqual(node.keywords, [])
                    self.assertFalse(any(isinstance(one, ast.Starred) for one in node.args))


class CodeTest(unittest.TestCase):
    def each(self, kind):
        for path, tree in TREES.items():
            for node in ast.walk(tree):
                if isinstance(node, kind):
                    yield f"{path.name}:{getattr(node, 'lineno', 0)}", node

    def test_top_of_files(self):
        for path, tree in TREES.items():
            docs = docstrings_of(tree)
            for node in tree.body:
                plain = isinstance(node, (ast.ImportFrom, ast.FunctionDef, ast.ClassDef, ast.Assign))
                self.assertTrue(plain or id(getattr(node, "value", None)) in docs, msg=(path, ast.dump(node)))

    def test_barred_nodes(self):
        for where, node in self.each(BARRED_NODES):
            self.fail(f"{where}: {ast.dump(node)}")

    def test_functions_are_not_nested(self):
        for path, tree in TREES.items():
            for node in functions_of(tree):
                self.assertEqual(functions_of(node), [node], msg=(path, node.name))

    def test_decorators(self):
        for where, node in self.each((ast.FunctionDef, ast.ClassDef)):
            for one in decorators_of(node):
                self.assertIsInstance(node, ast.FunctionDef, msg=where)
                self.assertIn(one, ("property", "setter", "classmethod", "staticmethod"), msg=where)

    def test_double_underscores(self):
        for where, node in self.each(ast.FunctionDef):
            if node.name.startswith("__"):
                self.assertIn(node.name.strip("_"), DUNDERS, msg=where)
        for where, node in self.each(ast.Name):
            self.assertFalse(node.id.startswith("__"), msg=where)
        for where, node in self.each(ast.Attribute):
            if node.attr == "__name__":
                self.assertRegex(ast.unparse(node), r"^[a-z_]+\.__class__\.__name__$", msg=where)
            elif node.attr.startswith("__") and node.attr != "__class__":
                self.assertEqual(ast.unparse(node), "super().__init__", msg=where)
        text = "".join(ast.unparse(tree) for tree in TREES.values())
        self.assertEqual(text.count(".__class__"), text.count(".__class__.__name__"))

    def test_init_returns_nothing(self):
        for where, node in self.each(ast.FunctionDef):
            if node.name == "__init__":
                self.assertFalse(any(isinstance(one, ast.Return) for one in ast.walk(node)), msg=where)

    def test_builtins(self):
        for path, tree in TREES.items():
            for node in ast.walk(tree):
                if isinstance(node, ast.Name) and hasattr(builtins, node.id):
                    self.assertIn(node.id, BUILTINS, msg=path)
                    self.assertIsInstance(node.ctx, ast.Load, msg=path)

    def test_names(self):
        methods = set(dir(str)) | set(dir(int)) | set(dir(list)) | set(dir(dict)) | set(dir(set))
        for path, tree in TREES.items():
            tops = {node.name for node in tree.body if isinstance(node, ast.ClassDef)}
            tops |= {name.name for node in imports_of(tree) for name in node.names}
            self.assertFalse([name for name in bound_in(tree) if hasattr(builtins, name) or name in BARRED], msg=path)
            for function in functions_of(tree):
                for name in local_names(function):
                    self.assertFalse(hasattr(builtins, name) or name in BARRED or name in tops, msg=(path, name))
                    self.assertNotIn(name, bound_in(tree), msg=(path, name))
        for where, node in self.each(ast.Attribute):
            if isinstance(node.ctx, ast.Store):
                self.assertNotIn(node.attr, methods | {"args"}, msg=where)
                self.assertIsInstance(node.value, ast.Name, msg=where)

    def test_methods(self):
        own = own_names()
        for where, node in self.each(ast.Call):
            if isinstance(node.func, ast.Attribute):
                self.assertIn(node.func.attr, METHODS | own, msg=where)
                if node.func.attr in METHODS:
                    self.assertEqual(node.keywords, [], msg=where)

    def test_generators_have_names_of_their_own(self):
        names = [node.name for tree in TREES.values() for node in functions_of(tree)]
        for where, node in self.each(ast.FunctionDef):
            if any(isinstance(one, (ast.Yield, ast.YieldFrom)) for one in ast.walk(node)):
                self.assertEqual(names.count(node.name), 1, msg=where)

    def test_methods_and_attributes_differ(self):
        for where, node in self.each(ast.ClassDef):
            methods = {one.name for one in node.body if isinstance(one, ast.FunctionDef)}
            stored = {
                one.attr for one in ast.walk(node) if isinstance(one, ast.Attribute) and isinstance(one.ctx, ast.Store)
            }
            self.assertEqual(methods & stored, set(), msg=where)

    def test_class_methods_share_no_name(self):
        single = {
            node.name for _, node in self.each(ast.FunctionDef)
            if decorators_of(node)
        }
        stored = {node.attr for _, node in self.each(ast.Attribute) if isinstance(node.ctx, ast.Store)}
        plain = {
            one.name for _, node in self.each(ast.ClassDef) for one in node.body
            if isinstance(one, ast.FunctionDef) and not one.decorator_list
        }
        self.assertEqual(single & (stored | plain), set())

    def test_methods_and_attributes_of_all_classes(self):
        # Allowed with care between unlike classes; the package does without.
        methods = {
            one.name for _, node in self.each(ast.ClassDef) for one in node.body if isinstance(one, ast.FunctionDef)
        }
        stored = {node.attr for _, node in self.each(ast.Attribute) if isinstance(node.ctx, ast.Store)}
        self.assertEqual(methods & stored, set())

    def test_with_blocks(self):
        owners = {
            node.name for _, node in self.each(ast.ClassDef)
            if {"__enter__", "__exit__"} <= {one.name for one in node.body if isinstance(one, ast.FunctionDef)}
        }
        for where, node in self.each(ast.With):
            for item in node.items:
                self.assertIsInstance(item.context_expr, ast.Call, msg=where)
                self.assertIn(item.context_expr.func.id, owners, msg=where)
        for where, node in self.each(ast.FunctionDef):
            if node.name == "__exit__":
                self.assertEqual([one.arg for one in node.args.args], ["self", "kind", "value", "trace"], msg=where)
                for row in node.body:
                    self.assertIsInstance(row, ast.Assign, msg=where)
                    self.assertIsInstance(row.value, (ast.Attribute, ast.Constant), msg=where)

    def test_keywords_of_builtins(self):
        allowed = {
            "sorted": {"key", "reverse"}, "min": {"key", "default"}, "max": {"key", "default"}, "sum": {"start"},
            "enumerate": {"start"}, "zip": {"strict"},
        }
        for where, node in self.each(ast.Call):
            if isinstance(node.func, ast.Name) and hasattr(builtins, node.func.id):
                for word in node.keywords:
                    self.assertIn(word.arg, allowed.get(node.func.id, ()), msg=where)

    def test_stars(self):
        for where, node in self.each(ast.Starred):
            self.fail(where)

    def test_is(self):
        for where, node in self.each(ast.Compare):
            for sign, right in zip(node.ops, node.comparators):
                if isinstance(sign, (ast.Is, ast.IsNot)):
                    self.assertIsInstance(right, ast.Constant, msg=where)
                    self.assertIn(right.value, (None, True, False), msg=where)

    def test_raising_and_catching(self):
        for where, node in self.each(ast.Raise):
            self.assertIsInstance(node.exc, ast.Call, msg=where)
            self.assertTrue(node.cause is None or isinstance(node.cause, ast.Name), msg=where)
        for where, node in self.each(ast.ExceptHandler):
            self.assertIsInstance(node.type, ast.Name, msg=where)
            self.assertFalse(hasattr(builtins, node.type.id), msg=where)

    def test_constants(self):
        for path, tree in TREES.items():
            docs = docstrings_of(tree)
            for node in ast.walk(tree):
                if isinstance(node, ast.Constant):
                    self.assertIsInstance(node.value, (int, str, type(None)), msg=path)
                    if isinstance(node.value, str):
                        self.assertNotIn("%", node.value, msg=path)
                        self.assertNotIn("__", node.value, msg=path)
                    if isinstance(node.value, str) and id(node) not in docs:
                        self.assertFalse(node.value.endswith("._"), msg=path)

    def test_exponents(self):
        for where, node in self.each((ast.BinOp, ast.AugAssign)):
            if isinstance(node.op, ast.Pow):
                self.assertIsInstance(node.right, ast.Constant, msg=where)
                self.assertTrue(0 <= node.right.value <= 64, msg=where)

    def test_what_is_added_in_place(self):
        # A later class may have signs of its own for +=; a plain count is safe beside it.
        for where, node in self.each(ast.AugAssign):
            self.assertIsInstance(node.value, ast.Constant, msg=where)

    def test_lazy_values_are_iterated_at_once(self):
        lazy = ("zip", "enumerate", "reversed", "range", "map", "iter")
        homes = ("list", "tuple", "dict", "sorted", "sum", "any", "all", "enumerate", "zip", "min", "max")
        for path, tree in TREES.items():
            good = set()
            for node in ast.walk(tree):
                if isinstance(node, (ast.For, ast.comprehension)):
                    good.add(id(node.iter))
                if isinstance(node, ast.Call) and isinstance(node.func, ast.Name) and node.func.id in homes and node.args:
                    good.add(id(node.args[0]))
                if isinstance(node, ast.Call) and isinstance(node.func, ast.Name) and node.func.id == "reversed":
                    self.assertIn(node.args[0].func.id, ("list", "range", "sorted", "tuple"), msg=path)
                    good.add(id(node.args[0]))
                if isinstance(node, ast.FunctionDef) and node.name == "__iter__":
                    good |= {id(one) for one in ast.walk(node)}
            for node in ast.walk(tree):
                if isinstance(node, ast.Call) and isinstance(node.func, ast.Name) and node.func.id in lazy:
                    self.assertIn(id(node), good, msg=f"{path}:{node.lineno}")

    def test_loops_do_not_change_what_they_go_over(self):
        for path, tree in TREES.items():
            for function in functions_of(tree):
                groups = grouped_names(function)
                for node in ast.walk(function):
                    if isinstance(node, ast.For):
                        changed = {groups.get(name, name) for name in changed_in(node.body)}
                        walked = {groups.get(name, name) for name in names_in(node.iter)}
                        self.assertEqual(changed & walked, set(), msg=(path, node.lineno))

    def test_names_that_pass_through_one_another(self):
        # Here the list that is walked becomes the list that grows, one round later.
        text = """def reach(start):
    queue = [start]
    while len(queue) > 0:
        later = []
        for place in queue:
            later.append(place)
        queue = later
"""
        function = ast.parse(text).body[0]
        groups = grouped_names(function)
        self.assertEqual(groups["queue"], groups["later"])


if __name__ == "__main__":
    unittest.main()
