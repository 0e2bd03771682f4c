"""The form of the code: those of the rules of LANGUAGE.md that can be seen by looking at single nodes."""

import ast
import builtins
import re
import unittest
from pathlib import Path

FOLDER = Path(__file__).resolve().parent.parent / "dealtpowers"
LIBRARY = {"heapq": {"heappush", "heappop", "heapify", "heapreplace", "heappushpop"},
           "math": {"gcd", "lcm", "isqrt", "comb", "perm", "factorial"},
           "itertools": {"product", "combinations", "permutations", "chain", "accumulate", "pairwise", "islice",
                         "zip_longest"},
           "collections": {"defaultdict"}}
BUILTINS = set("""len range enumerate zip min max sum abs sorted reversed int str bool bytes list tuple dict set
    frozenset isinstance ord repr any all divmod pow getattr hasattr setattr iter next map super property staticmethod
    classmethod object Exception ValueError TypeError KeyError IndexError LookupError ZeroDivisionError
    ArithmeticError OverflowError RuntimeError NotImplementedError AttributeError StopIteration NotImplemented
    """.split())
METHODS = set("""append clear copy count endswith extend find get index insert isalnum isalpha isdigit islower isspace
    isupper items join keys ljust lower lstrip partition pop remove replace reverse rfind rjust rpartition rsplit
    rstrip setdefault split splitlines startswith strip update upper values zfill bit_length title capitalize
    swapcase casefold center expandtabs removeprefix removesuffix rindex isascii isdecimal isnumeric istitle
    isidentifier isprintable translate sort add discard format __init__""".split())
BARRED_NAMES = set("register mro elements open input law version_info with_traceback add_note".split())
BARRED_WORDS = set("""type typing typing_extensions enum Enum IntEnum StrEnum Flag IntFlag Generic Protocol ABC ABCMeta
    namedtuple NamedTuple TypedDict TYPE_CHECKING abstractmethod dataclass overload contextmanager""".split())
STATEMENTS = (ast.Assign, ast.AugAssign, ast.AnnAssign, ast.If, ast.While, ast.For, ast.Return, ast.Break, ast.Continue,
              ast.Pass, ast.Raise, ast.Assert, ast.Delete, ast.Nonlocal, ast.Match, ast.With, ast.Try, ast.Expr,
              ast.FunctionDef, ast.ClassDef, ast.ImportFrom)
INTERFACE = {
    "errors": ["DealError", "Missing", "InvalidNumber", "UnknownName", "NothingLeft"],
    "numbers": ["is_number", "floor_root", "ceiling_root", "lowest"],
    "systems": ["Outcome", "Solution", "Mirror", "solve", "least_cost"],
    "schemas": ["Schema"],
    "products": ["Product", "read_product"],
    "tables": ["Table"],
    "claims": ["Claim", "read_claim"],
    "papers": ["Verdict", "Dealt", "Failing"],
    "judging": ["judge", "is_true", "greatest_power"],
    "corners": ["corners", "upper_bounds", "lower_bounds", "base", "combined"],
    "keeping": ["stretch", "first_broken", "Keeper"],
    "needs": ["difference", "least_facts", "least_lots"],
    "books": ["Book"],
    "pages": ["write_page", "read_page", "columns_of"],
    "desk": ["Desk"],
}
SYSTEM = {"__init__": "rows, bounds", "rows": "", "bounds": "", "holds": "", "__bool__": None, "__repr__": None}
VERDICT = {"claims": "", "premises": "", "small_sums": "", "great_sums": "", "told": "", "holds": "", "__bool__": None,
           "__repr__": None}
# For each class its methods, and the parameters of each behind the object itself.
CLASSES = {
    "Schema": {"__init__": "columns, facts=()", "facts": "", "__contains__": None, "rays": "", "is_exponent": "value",
               "fits": "value", "follows": "low, high", "reason": "low, high", "equal_sums": "one, other",
               "with_facts": "*facts", "fact_text": "fact", "read_fact": "text", "__eq__": None, "__repr__": None},
    "Product": {"__init__": "width, factors=()", "of": "*exponents, width=1", "factors": "", "power": "exponent",
                "__contains__": None, "__len__": None, "__bool__": None, "__mul__": None, "to_the": "number",
                "__pow__": None, "__eq__": None, "text": "columns", "worth": "table", "__repr__": None},
    "Table": {"__init__": "width, groups", "powers": "width, base, groups", "size": "", "groups": "",
              "sum_of": "exponent", "__add__": None, "__mul__": None, "to_the": "number", "__pow__": None,
              "raised": "number", "keeps": "schema", "__eq__": None, "__repr__": None},
    "Claim": {"__init__": "schema, low, high", "__call__": "table", "sides": "table", "__mul__": None,
              "to_the": "number", "__pow__": None, "turned": "", "times": "product", "moved": "schema, images",
              "text": "", "__eq__": None, "__repr__": None},
    "Verdict": {"__init__": "claims, premises=()", **VERDICT},
    "Dealt": {"__init__": "claims, premises, weights, uses, lots", **VERDICT, "weights": "", "uses": "", "lots": ""},
    "Failing": {"__init__": "claims, premises, base, groups", **VERDICT, "groups": "", "table": ""},
    "Keeper": {"__init__": "schema, sums", "sums": "", "busy": "", "apply": "*deeds", "put": "row, *, count=1",
               "strike": "row, *, count=1", "undo": "", "redo": "", "history": "", "known": "", "stretch": "goal",
               "twin": "", "__len__": None, "__bool__": None, "__eq__": None, "__repr__": None},
    "Book": {"__init__": "columns, *, limit=12", "limit": "", "set_limit": "value", "busy": "", "computed": "",
             "apply": "*commands", "undo": "", "redo": "", "history": "", "names": "", "kind_of": "name",
             "text_of": "name", "rules": "", "premises": "", "claim": "name", "verdict": "name", "kept": "", "walk": "",
             "twin": "", "__contains__": None, "__len__": None, "__bool__": None, "__eq__": None, "__repr__": None},
    "Desk": {"__init__": "*, book=None", "book": "", "say": "line", "__call__": "line", "log": "", "__len__": None,
             "__bool__": None, "__repr__": None},
    "Outcome": SYSTEM, "Solution": {**SYSTEM, "__init__": "rows, bounds, scale, numbers", "numbers": ""},
    "Mirror": {**SYSTEM, "__init__": "rows, bounds, numbers", "numbers": ""},
}
# For each function of the interface its parameters.
FUNCTIONS = {
    "is_number": "value, least", "floor_root": "number, degree", "ceiling_root": "number, degree", "lowest": "numbers",
    "solve": "rows, bounds", "least_cost": "costs, rows, bounds", "read_product": "columns, text",
    "read_claim": "schema, text", "judge": "*claims, premises=()", "is_true": "claim", "greatest_power": "claim",
    "corners": "schema, sums, goal", "upper_bounds": "schema, sums, goal", "lower_bounds": "schema, sums, goal",
    "base": "schema, sums", "combined": "claim, claims", "stretch": "schema, known, goal",
    "first_broken": "schema, known", "difference": "one, other", "least_facts": "claim",
    "least_lots": "schema, pool, goals", "write_page": "book", "read_page": "text", "columns_of": "book",
}
OPERATORS = set("""__eq__ __repr__ __str__ __len__ __bool__ __contains__ __add__ __sub__ __mul__ __pow__
    __lt__ __le__ __gt__ __ge__ __ne__""".split())
DOUBLE = OPERATORS | {"__init__", "__call__", "__enter__", "__exit__", "__iter__", "__getitem__", "__setitem__"}
MODIFY = set("append extend insert pop remove clear reverse sort update setdefault add discard".split())


def bound_names(tree):
    """Each name that a tree binds, with its node."""
    for node in ast.walk(tree):
        if isinstance(node, (ast.FunctionDef, ast.ClassDef)):
            yield node.name, node
        elif isinstance(node, ast.arg):
            yield node.arg, node
        elif isinstance(node, ast.Name) and not isinstance(node.ctx, ast.Load):
            yield node.id, node
        elif isinstance(node, ast.ExceptHandler) and node.name:
            yield node.name, node
        elif isinstance(node, ast.alias):
            yield node.asname or node.name, node


def called_names(node):
    """The names of what a tree calls, by name or as a method, and the names of the attributes that it reads."""
    for item in ast.walk(node):
        if isinstance(item, ast.Call) and isinstance(item.func, ast.Name):
            yield item.func.id
        elif isinstance(item, ast.Attribute) and isinstance(item.ctx, ast.Load):
            yield item.attr


def is_setter(function):
    """Whether a function is the setter of a property."""
    return any(getattr(item, "attr", "") == "setter" for item in function.decorator_list)


def is_fresh(node):
    """Whether an expression surely makes a new list or dict."""
    return (isinstance(node, (ast.List, ast.Dict, ast.ListComp, ast.DictComp))
            or isinstance(node, ast.Call) and getattr(node.func, "id", "") in ("list", "dict", "sorted"))


def changes_of(function):
    """What a function changes that it did not create: the nodes of these places, but what __init__ gives its self."""
    given = {}
    for node in ast.walk(function):
        if isinstance(node, ast.Assign):
            for target in node.targets:
                if isinstance(target, ast.Name):
                    given.setdefault(target.id, []).append(node.value)
    own = {name for name, values in given.items() if all(is_fresh(value) for value in values)}
    for node in ast.walk(function):
        if isinstance(node, ast.Attribute) and not isinstance(node.ctx, ast.Load):
            if function.name != "__init__" or node.value.id != "self":
                yield node
        elif isinstance(node, ast.Subscript) and not isinstance(node.ctx, ast.Load):
            if getattr(node.value, "id", "") not in own:
                yield node
        elif isinstance(node, ast.Call) and getattr(node.func, "attr", "") in MODIFY:
            if getattr(node.func.value, "id", "") not in own:
                yield node
        elif isinstance(node, (ast.AugAssign, ast.Yield, ast.YieldFrom)):
            yield node


def docstrings(tree):
    """The nodes of all docstrings."""
    for node in ast.walk(tree):
        if isinstance(node, (ast.Module, ast.ClassDef, ast.FunctionDef)) and node.body:
            first = node.body[0]
            if isinstance(first, ast.Expr) and isinstance(first.value, ast.Constant):
                yield first.value


class LanguageTest(unittest.TestCase):
    @classmethod
    def setUpClass(cls):
        cls.texts = {path: path.read_text(encoding="ascii") for path in sorted(FOLDER.rglob("*.py"))}
        cls.trees = {path: ast.parse(text) for path, text in cls.texts.items()}

    def nodes(self, *kinds):
        for path, tree in self.trees.items():
            for node in ast.walk(tree):
                if isinstance(node, kinds):
                    yield f"{path.name}:{getattr(node, 'lineno', 0)}", node

    def test_files(self):
        for path in FOLDER.rglob("*"):
            if "__pycache__" not in path.parts:
                self.assertTrue(re.fullmatch(r"[a-z][a-z0-9_]*\.py|__(init|main)__\.py", path.name), path)
        for path, text in self.texts.items():
            self.assertTrue(set(text) <= {chr(code) for code in range(32, 127)} | {"\n"}, path)
            lines = text.split("\n")
            self.assertLess(len(lines), 401, path)
            self.assertTrue(all(len(line) <= 120 for line in lines), path)
            self.assertNotIn("_wall", text)

    def test_module_level(self):
        for path, tree in self.trees.items():
            names = []
            for node in tree.body:
                self.assertIsInstance(node, (ast.Expr, ast.ImportFrom, ast.FunctionDef, ast.ClassDef, ast.Assign), path)
                if isinstance(node, ast.Expr):
                    self.assertIsInstance(node.value, ast.Constant, path)
                elif isinstance(node, ast.Assign):
                    names += [target.id for target in node.targets]
                elif isinstance(node, ast.ImportFrom):
                    names += [alias.name for alias in node.names]
                else:
                    names.append(node.name)
            self.assertEqual(len(names), len(set(names)), path)

    def test_imports(self):
        stems = {path.stem: path for path in self.trees}
        for where, node in self.nodes(ast.Import, ast.ImportFrom):
            self.assertIsInstance(node, ast.ImportFrom, where)
            self.assertTrue(node.level == 0 and all(alias.asname is None for alias in node.names), where)
            names = {alias.name for alias in node.names}
            if node.module in LIBRARY:
                self.assertTrue(names <= LIBRARY[node.module], where)
            else:
                self.assertTrue(node.module.startswith("dealtpowers."), where)
                tree = self.trees[stems[node.module.removeprefix("dealtpowers.")]]
                defined = {getattr(item, "name", None) for item in tree.body}
                defined |= {target.id for item in tree.body if isinstance(item, ast.Assign) for target in item.targets}
                self.assertTrue(names <= defined, where)

    def test_statements(self):
        for where, node in self.nodes(ast.stmt):
            self.assertIsInstance(node, STATEMENTS, where)

    def test_functions(self):
        for where, node in self.nodes(ast.FunctionDef):
            self.assertLess(node.end_lineno - node.lineno, 40, where)
            for decorator in node.decorator_list:
                name = decorator.attr if isinstance(decorator, ast.Attribute) else decorator.id
                self.assertIn(name, ("property", "staticmethod", "classmethod", "setter"), where)
        for where, node in self.nodes(ast.ClassDef):
            self.assertEqual([node.decorator_list, node.keywords], [[], []], where)

    def test_expressions(self):
        for where, node in self.nodes(ast.expr):
            self.assertNotIsInstance(node, (ast.GeneratorExp, ast.Await), where)
            if isinstance(node, ast.BinOp):
                self.assertNotIsInstance(node.op, (ast.Div, ast.MatMult), where)
                if isinstance(node.op, ast.Pow):
                    self.assertIsInstance(node.right, ast.Constant, where)
            if isinstance(node, ast.Constant):
                self.assertNotIsInstance(node.value, (float, complex), where)
            if isinstance(node, ast.Compare):
                for op, side in zip(node.ops, node.comparators):
                    if isinstance(op, (ast.Is, ast.IsNot)):
                        self.assertTrue(isinstance(side, ast.Constant) and side.value in (None, True, False), where)

    def test_strings(self):
        for path, tree in self.trees.items():
            told = {id(node) for node in docstrings(tree)}
            for node in ast.walk(tree):
                if isinstance(node, ast.Constant) and isinstance(node.value, str):
                    self.assertNotIn(chr(37), node.value, path)
                    if id(node) not in told:
                        self.assertFalse(BARRED_WORDS & set(re.findall(r"\w+", node.value)), (path, node.lineno))

    def test_names(self):
        # A test that runs examples leaves their last result in the builtins under the name _.
        used = set(dir(builtins)) - {"_"}
        for path, tree in self.trees.items():
            bound = dict(bound_names(tree))
            inner = {item for node in ast.walk(tree) if isinstance(node, ast.ClassDef) for item in node.body}
            for name, node in bound.items():
                self.assertTrue(re.fullmatch(r"_?[A-Za-z][A-Za-z0-9_]*|_|__[a-z]+__", name), (path, name))
                if node not in inner and not name.startswith("__"):
                    self.assertNotIn(name, used, path)
                self.assertNotIn(name, BARRED_NAMES | BARRED_WORDS, path)
            for node in ast.walk(tree):
                if isinstance(node, ast.Name) and isinstance(node.ctx, ast.Load) and node.id not in bound:
                    self.assertIn(node.id, BUILTINS, (path, node.lineno))
                if isinstance(node, ast.Attribute):
                    self.assertNotIn(node.attr, BARRED_NAMES | BARRED_WORDS, (path, node.lineno))

    def test_methods(self):
        own = {node.name for _, node in self.nodes(ast.FunctionDef)}
        for where, node in self.nodes(ast.Call):
            if isinstance(node.func, ast.Attribute):
                self.assertIn(node.func.attr, METHODS | own, where)

    def functions(self):
        """The functions of the package by name; a class stands for its __init__."""
        found = {}
        for _, node in self.nodes(ast.FunctionDef, ast.ClassDef):
            if isinstance(node, ast.FunctionDef) and is_setter(node):
                continue
            if isinstance(node, ast.FunctionDef):
                found.setdefault(node.name, []).append(node)
            else:
                inner = [item for item in node.body if getattr(item, "name", "") == "__init__"]
                found.setdefault(node.name, []).extend(inner)
        return found

    def test_operators_and_properties_change_nothing(self):
        functions = self.functions()
        names = list(OPERATORS | {node.name for _, node in self.nodes(ast.FunctionDef)
                                  if any(getattr(item, "id", "") == "property" for item in node.decorator_list)})
        seen = set(names)
        while names:
            for function in functions.get(names.pop(), []):
                self.assertEqual([ast.dump(node) for node in changes_of(function)], [], function.name)
                fresh = {name for name in called_names(function) if name in functions} - seen
                seen |= fresh
                names += fresh
        self.assertTrue({"Product", "Table", "Claim", "to_the", "added_up", "monomial"} <= seen)
        self.assertFalse({"solve", "Tableau"} & seen)

    def test_double_underscores(self):
        for where, node in self.nodes(ast.FunctionDef):
            if node.name.startswith("__"):
                self.assertIn(node.name, DOUBLE, where)

    def test_names_of_methods_and_attributes(self):
        methods = {item.name for _, node in self.nodes(ast.ClassDef) for item in node.body
                   if isinstance(item, ast.FunctionDef)}
        stored = {node.attr for _, node in self.nodes(ast.Attribute) if not isinstance(node.ctx, ast.Load)}
        values = {target.id for _, node in self.nodes(ast.ClassDef) for item in node.body
                  if isinstance(item, ast.Assign) for target in item.targets}
        # The document asks for a property and an attribute with this name, in two classes.
        self.assertEqual(methods & stored, {"limit"})
        self.assertFalse(methods & values | stored & values)
        classes = {node.name for _, node in self.nodes(ast.ClassDef)}
        for where, node in self.nodes(ast.Attribute):
            if isinstance(node.value, ast.Name) and node.value.id in classes:
                self.assertIn(node.attr, values, where)
        for where, node in self.nodes(ast.Attribute):
            if node.attr.startswith("_") and not node.attr.startswith("__"):
                self.assertIn(node.attr, methods | stored, where)

    def test_methods_of_the_interface(self):
        seen = set()
        for where, node in self.nodes(ast.ClassDef):
            inner = {item.name: item for item in node.body if isinstance(item, ast.FunctionDef) and not is_setter(item)}
            for name, parameters in CLASSES.get(node.name, {}).items():
                self.assertIn(name, inner, node.name)
                told = ast.unparse(inner[name].args).removeprefix("self").removeprefix(", ")
                if parameters is not None:
                    self.assertEqual(told, parameters, (node.name, name))
                seen.add(node.name)
        self.assertEqual(seen, set(CLASSES))

    def test_functions_of_the_interface(self):
        found = {node.name: ast.unparse(node.args) for tree in self.trees.values() for node in tree.body
                 if isinstance(node, ast.FunctionDef) and node.name in FUNCTIONS}
        self.assertEqual(found, FUNCTIONS)

    def test_interface(self):
        trees = {path.stem: tree for path, tree in self.trees.items()}
        for stem, names in INTERFACE.items():
            defined = {getattr(node, "name", None) for node in trees[stem].body}
            self.assertTrue(set(names) <= defined, stem)


if __name__ == "__main__":
    unittest.main()
