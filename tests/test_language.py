"""What can be seen from outside of the rules of the language, and of the interface."""

import ast
import builtins
import io
import pathlib
import re
import tokenize
import unittest

FOLDER = pathlib.Path(__file__).resolve().parent.parent / "softchances"
FILES = sorted(FOLDER.glob("*.py"))
LIBRARY = {"heapq": {"heappush", "heappop", "heapify", "heapreplace", "heappushpop"},
           "math": {"gcd", "lcm", "isqrt", "comb", "perm", "factorial"},
           "itertools": {"product", "combinations", "permutations"}}
BUILTINS = set("""len range enumerate zip min max sum abs sorted reversed int str bool bytes list tuple dict set
    frozenset isinstance ord repr any all divmod iter next map Exception ValueError TypeError KeyError IndexError
    LookupError ZeroDivisionError ArithmeticError OverflowError RuntimeError NotImplementedError AttributeError
    StopIteration NotImplemented""".split())
METHODS = set("""append clear copy count endswith extend find get index insert isalnum isalpha isdigit islower
    isspace isupper items join keys ljust lower lstrip partition pop remove replace reverse rfind rjust rpartition
    rsplit rstrip setdefault split splitlines startswith strip update upper values zfill bit_length sort add
    discard""".split())
DOUBLE = set("""__init__ __eq__ __repr__ __str__ __len__ __enter__ __exit__ __call__ __iter__ __contains__ __bool__
    __getitem__ __setitem__""".split())
# Of the nodes of Python's syntax, the rules bar these, or this package does without them.
BARRED = (ast.Global, ast.AsyncFunctionDef, ast.AsyncFor, ast.AsyncWith, ast.Await, ast.Div, ast.GeneratorExp,
          ast.Yield, ast.YieldFrom, ast.AnnAssign, ast.Import, ast.MatMult, ast.Match, ast.NamedExpr, ast.SetComp,
          ast.Set)
WORDS = set("""type typing typing_extensions enum Enum IntEnum StrEnum Flag IntFlag Generic Protocol ABC ABCMeta
    namedtuple NamedTuple TypedDict TYPE_CHECKING abstractmethod register mro elements open input law version_info
    with_traceback add_note""".split())

INTERFACE = {
    "books": {"worth": "payoff chance", "keeps": "book chance", "row_of": "book sale", "is_sound": "book",
              "chance_for": "book", "losing_sale": "book"},
    "worths": {"least_worth": "book payoff", "greatest_worth": "book payoff", "least_chance": "book lot",
               "greatest_chance": "book lot", "end_chance": "book payoff", "hedge": "book payoff"},
    "corners": {"corners": "book", "is_corner": "book chance", "mean_corner": "book"},
    "tight": {"is_tight": "book index", "is_needless": "book index", "tight_prices": "book", "needless": "book",
              "least_quotes": "book", "follows": "book payoff price", "is_within": "book other",
              "are_alike": "book other", "parting_chance": "book other"},
    "bounds": {"bounds_of": "book", "book_of": "bounds", "is_kept": "bounds", "is_tight_bounds": "bounds",
               "gathers": "bounds", "scattering": "bounds", "tightened": "bounds", "numbers_of": "bounds",
               "level_worth": "bounds payoff", "order_chance": "bounds order", "order_chances": "bounds"},
    "masses": {"masses_of": "bounds", "beliefs": "outcomes masses", "belief": "outcomes masses lot",
               "room": "outcomes masses lot", "sure_worth": "outcomes masses payoff", "clash": "outcomes masses others",
               "put_together": "outcomes masses others", "weakened": "outcomes masses share",
               "masses_behind": "outcomes masses lot"},
    "shapes": {"range_bounds": "ranges", "beginning_bounds": "beginnings", "stirred_bounds": "chance share",
               "near_bounds": "chance share"},
    "news": {"least_behind": "book lot payoff", "greatest_behind": "book lot payoff", "chances_behind": "book lot",
             "widens": "book question payoff", "least_by_question": "book question payoff"},
    "tellers": {"bound_to": "book sayings saying", "least_told": "book sayings saying payoff",
                "greatest_told": "book sayings saying payoff", "is_told_nothing": "book sayings payoff"},
    "acts": {"safe_acts": "book acts", "unbeaten_acts": "book acts", "good_acts": "book acts", "open_acts": "book acts",
             "chance_for_act": "book acts act", "beating_mix": "book acts act", "best_mix": "book acts"},
    "losses": {"loss": "book", "losing_mix": "book", "least_cost": "book", "cheapest_mend": "book",
               "culprits": "book"},
    "walks": {"least_after": "walk payoff steps", "greatest_after": "walk payoff steps",
              "least_meet": "walk lot steps", "greatest_meet": "walk lot steps", "worst_plan": "walk payoff",
              "least_row": "walk payoff steps"},
    "ever": {"least_ever": "walk lot", "greatest_ever": "walk lot", "shunning": "walk lot",
             "reaching_plan": "walk lot", "shunning_plan": "walk lot"},
    "sources": {"both": "book other", "do_meet": "book other", "least_between": "book other payoff",
                "least_blend": "book other share payoff", "least_but_one": "book payoff",
                "greatest_but_one": "book payoff", "is_left": "book chance", "widest_lot": "book"},
    "checker": {"accepts": "claim certificate"},
    "certificates": {"certify_book": "book", "certify_least": "book payoff", "certify_most": "book payoff",
                     "certify_quote": "book payoff price", "certify_act": "book acts act",
                     "certify_question": "book question payoff", "certify_bounds": "bounds",
                     "certify_masses": "bounds", "certify_behind": "book lot payoff",
                     "certify_walk": "walk payoff steps index"},
}
CLASSES = {
    ("books", "Book"): {"__init__": "self outcomes quotes", "read": "text", "outcomes": "self", "quotes": "self",
                        "with_quote": "self payoff price", "without": "self index", "__str__": "self",
                        "__repr__": "self", "__eq__": "self other"},
    ("desks", "Desk"): {"__init__": "self book", "quote": "self payoff price", "drop": "self index",
                        "raise_to": "self index price", "tighten": "self", "news": "self lot", "book": "self",
                        "is_sound": "self", "changes": "self", "least": "self payoff", "greatest": "self payoff",
                        "undo": "self", "trial": "self", "tried": "self action"},
    ("shelves", "Shelf"): {"__init__": "self", "__setitem__": "self name book", "__getitem__": "self name",
                           "__contains__": "self value", "__len__": "self", "names": "self", "wishes": "self",
                           "drop": "self name", "wish": "self wish", "lift": "self index", "undo": "self",
                           "changes": "self", "do_all": "self *deeds watch", "trial": "self", "tried": "self action"},
    ("console", "Console"): {"__init__": "self book", "say": "self line"},
}


def trees():
    """Each file's name with its syntax tree."""
    return [(path.stem, ast.parse(path.read_text(encoding="utf-8"))) for path in FILES]


def functions_in(tree):
    """All functions and methods of a file."""
    return [node for node in ast.walk(tree) if isinstance(node, ast.FunctionDef)]


def arguments_of(function):
    """The names of the parameters, with spaces between."""
    parts = function.args
    rest = ["*" + parts.vararg.arg] if parts.vararg else []
    return " ".join([argument.arg for argument in parts.args] + rest + [argument.arg for argument in parts.kwonlyargs])


class Files(unittest.TestCase):
    def test_nothing_else(self):
        for path in FOLDER.rglob("*"):
            if "__pycache__" not in path.parts:
                self.assertTrue(path.is_file() and re.fullmatch(r"[a-z0-9_]+\.py", path.name), path)

    def test_sizes_and_characters(self):
        for path in FILES:
            text = path.read_text(encoding="utf-8")
            self.assertTrue(text.endswith("\n"), path)
            self.assertTrue(all(sign == "\n" or " " <= sign <= "~" for sign in text), path)
            lines = text.split("\n")
            self.assertLessEqual(len(lines) - 1, 399, path)
            self.assertLessEqual(max(map(len, lines)), 120, path)
            for function in functions_in(ast.parse(text)):
                self.assertLessEqual(function.end_lineno - function.lineno + 1, 40, (path, function.name))

    def test_words(self):
        for path in FILES:
            tokens = list(tokenize.generate_tokens(io.StringIO(path.read_text(encoding="utf-8")).readline))
            for token in tokens:
                if token.type == tokenize.NAME:
                    self.assertNotIn(token.string, WORDS, (path, token.start))
                if token.type == tokenize.STRING:
                    self.assertNotIn("%", token.string, (path, token.start))
                    self.assertNotIn("\\", token.string, (path, token.start))


class Syntax(unittest.TestCase):
    def test_barred(self):
        for name, tree in trees():
            for node in ast.walk(tree):
                self.assertNotIsInstance(node, BARRED, (name, getattr(node, "lineno", None)))
                if isinstance(node, ast.Constant):
                    self.assertNotIsInstance(node.value, (float, complex), (name, node.lineno))
                if isinstance(node, (ast.arg, ast.FunctionDef)):
                    self.assertIsNone(getattr(node, "annotation", None) or getattr(node, "returns", None))

    def test_module_level(self):
        for name, tree in trees():
            for place, node in enumerate(tree.body):
                doc = place == 0 and isinstance(node, ast.Expr) and isinstance(node.value, ast.Constant)
                plain = isinstance(node, ast.Assign) and isinstance(node.targets[0], ast.Name)
                self.assertTrue(doc or plain or isinstance(node, (ast.ImportFrom, ast.FunctionDef, ast.ClassDef)),
                                (name, node.lineno))

    def test_decorators(self):
        for name, tree in trees():
            for node in ast.walk(tree):
                for mark in getattr(node, "decorator_list", ()):
                    self.assertIn(ast.unparse(mark), ("property", "staticmethod", "classmethod"), (name, node.lineno))

    def test_names(self):
        for name, tree in trees():
            bound = {alias.name for node in tree.body if isinstance(node, ast.ImportFrom) for alias in node.names}
            classes = {node.name for node in tree.body if isinstance(node, ast.ClassDef)}
            for node in tree.body:
                if isinstance(node, (ast.FunctionDef, ast.ClassDef)):
                    self.assertNotIn(node.name, vars(builtins), (name, node.lineno))
            for node in ast.walk(tree):
                if isinstance(node, ast.Name):
                    if isinstance(node.ctx, ast.Store):
                        self.assertNotIn(node.id, bound | classes | set(vars(builtins)), (name, node.lineno))
                    elif node.id in vars(builtins):
                        self.assertIn(node.id, BUILTINS | {"property", "staticmethod"}, (name, node.lineno))
                if isinstance(node, ast.arg):
                    self.assertNotIn(node.arg, bound | classes | set(vars(builtins)), (name, node.lineno))
                if isinstance(node, ast.FunctionDef) and node.name.startswith("__"):
                    self.assertIn(node.name, DOUBLE, (name, node.lineno))

    def test_tries(self):
        # Only own errors are caught, and what stands behind `finally` only sets an attribute, or does not.
        own = {node.name for node in dict(trees())["errors"].body if isinstance(node, ast.ClassDef)}
        for name, tree in trees():
            for node in ast.walk(tree):
                if isinstance(node, ast.Try):
                    for handler in node.handlers:
                        caught = handler.type.elts if isinstance(handler.type, ast.Tuple) else [handler.type]
                        self.assertLessEqual({part.id for part in caught}, own, (name, handler.lineno))
                        self.assertIsNone(handler.name, (name, handler.lineno))
                    for row in node.finalbody:
                        self.assertIsInstance(row, ast.If, (name, row.lineno))
                        self.assertIsInstance(row.test.ops[0], ast.Is, (name, row.lineno))
                        self.assertTrue(all(isinstance(inner, ast.Assign) for inner in row.body), (name, row.lineno))

    def test_operators_change_nothing(self):
        # Nor do properties and what is shown: they assign to local names alone, and call no method that modifies.
        quiet = {"__eq__", "__str__", "__repr__", "__len__", "__contains__", "__getitem__"}
        for name, tree in trees():
            for function in functions_in(tree):
                marks = {ast.unparse(mark) for mark in function.decorator_list}
                if function.name not in quiet and "property" not in marks:
                    continue
                for node in ast.walk(function):
                    self.assertNotIsInstance(node, (ast.AugAssign, ast.Delete), (name, function.name))
                    if isinstance(node, (ast.Attribute, ast.Subscript)):
                        self.assertIsInstance(node.ctx, ast.Load, (name, function.name))

    def test_shown_at_once(self):
        # These are one `return`: they assign nothing at all.
        for name, tree in trees():
            for function in functions_in(tree):
                if function.name in ("__eq__", "__str__", "__repr__", "__len__"):
                    self.assertEqual([type(row) for row in function.body], [ast.Return], (name, function.name))

    def test_iteration_beside_items(self):
        for name, tree in trees():
            for node in ast.walk(tree):
                if isinstance(node, ast.ClassDef):
                    methods = {part.name for part in node.body if isinstance(part, ast.FunctionDef)}
                    self.assertTrue("__getitem__" not in methods or "__iter__" in methods, (name, node.name))

    def test_leaving(self):
        # What ends a `with` statement only sets attributes to attributes.
        for name, tree in trees():
            for function in functions_in(tree):
                if function.name == "__exit__":
                    for row in function.body:
                        self.assertIsInstance(row, ast.Assign, (name, row.lineno))
                        self.assertIsInstance(row.targets[0], ast.Attribute, (name, row.lineno))
                        self.assertIsInstance(row.value, ast.Attribute, (name, row.lineno))

    def test_methods(self):
        own = {function.name for _, tree in trees() for function in functions_in(tree)}
        for name, tree in trees():
            for node in ast.walk(tree):
                if isinstance(node, ast.Call) and isinstance(node.func, ast.Attribute):
                    self.assertIn(node.func.attr, METHODS | own, (name, node.lineno))


class Quiet(unittest.TestCase):
    """What properties, operators and what is shown run, through all functions that they call."""

    def setUp(self):
        self.classes = {node.name for _, tree in trees() for node in tree.body if isinstance(node, ast.ClassDef)}
        self.made = {}
        for _, tree in trees():
            for function in functions_in(tree):
                self.made.setdefault(function.name, []).append(function)
        self.held = {node.attr for _, tree in trees() for node in ast.walk(tree)
                     if isinstance(node, ast.Attribute) and isinstance(node.ctx, ast.Store)}

    def begun(self):
        """The methods that begin it."""
        return [function for functions in self.made.values() for function in functions
                if function.name in DOUBLE - {"__init__", "__enter__", "__exit__", "__call__", "__setitem__"}
                or "property" in {ast.unparse(mark) for mark in function.decorator_list}]

    def run_by(self, function):
        """The names of the functions, and of the methods, that a function calls."""
        calls = [node.func for node in ast.walk(function) if isinstance(node, ast.Call)]
        return ({call.id for call in calls if isinstance(call, ast.Name)},
                {call.attr for call in calls if isinstance(call, ast.Attribute)})

    def reached(self):
        """All functions and methods that run then."""
        found, left = [], self.begun()
        while left:
            function = left.pop()
            if function not in found:
                found.append(function)
                plain, methods = self.run_by(function)
                left += [other for name in plain | methods for other in self.made.get(name, ())]
        return found

    def test_what_is_reached(self):
        names = {function.name for function in self.reached()}
        self.assertLessEqual({"is_sound", "end_by", "least_end", "first_lines", "first_held", "book_words"}, names)

    def test_nothing_held_is_called(self):
        # Not even by its name: a method of builtin values counts as held if any object keeps something so called.
        for function in self.reached():
            plain, methods = self.run_by(function)
            bound = {node.arg for node in ast.walk(function) if isinstance(node, ast.arg)}
            bound |= {node.id for node in ast.walk(function)
                      if isinstance(node, ast.Name) and isinstance(node.ctx, ast.Store)}
            self.assertEqual(plain & bound, set(), function.name)
            self.assertLessEqual(plain, BUILTINS | set(self.made) | self.classes | LIBRARY["math"], function.name)
            self.assertEqual(methods & self.held, set(), function.name)
            self.assertLessEqual(methods, METHODS | set(self.made), function.name)

    def test_nothing_is_changed(self):
        loud = set("append clear extend insert pop remove reverse setdefault sort add discard update".split())
        for function in self.reached():
            self.assertEqual(self.run_by(function)[1] & loud, set(), function.name)
            for node in ast.walk(function):
                self.assertNotIsInstance(node, (ast.AugAssign, ast.Delete), function.name)
                if isinstance(node, (ast.Attribute, ast.Subscript)):
                    self.assertIsInstance(node.ctx, ast.Load, function.name)


class Imports(unittest.TestCase):
    def imported(self, tree):
        """The pairs of a module and a name that a file imports."""
        return [(node.module, alias.name, alias.asname, node.level) for node in ast.walk(tree)
                if isinstance(node, ast.ImportFrom) for alias in node.names]

    def test_what_is_imported(self):
        defined = {name: {node.name for node in tree.body if isinstance(node, (ast.FunctionDef, ast.ClassDef))}
                   | {node.targets[0].id for node in tree.body if isinstance(node, ast.Assign)}
                   for name, tree in trees()}
        for name, tree in trees():
            used = {node.id for node in ast.walk(tree) if isinstance(node, ast.Name)}
            for module, what, other, level in self.imported(tree):
                self.assertEqual((other, level), (None, 0), name)
                known = LIBRARY.get(module)
                if known is None:
                    self.assertTrue(module.startswith("softchances."), (name, module))
                    known = defined[module.split(".")[1]]
                self.assertIn(what, known, (name, module))
                self.assertIn(what, used, (name, module))

    def test_no_circles(self):
        over = {name: {module.split(".")[1] for module, *_ in self.imported(tree) if "." in module}
                for name, tree in trees()}
        while over:
            free = [name for name, needs in over.items() if not needs & set(over)]
            self.assertTrue(free, over)
            for name in free:
                del over[name]


class Interface(unittest.TestCase):
    def test_functions(self):
        files = dict(trees())
        for module, listed in INTERFACE.items():
            made = {node.name: arguments_of(node) for node in files[module].body
                    if isinstance(node, ast.FunctionDef)}
            for name, arguments in listed.items():
                self.assertEqual(made.get(name), arguments, (module, name))

    def test_classes(self):
        files = dict(trees())
        for (module, name), methods in CLASSES.items():
            body = next(node.body for node in files[module].body
                        if isinstance(node, ast.ClassDef) and node.name == name)
            made = {node.name: arguments_of(node) for node in body if isinstance(node, ast.FunctionDef)}
            self.assertEqual({method: made.get(method) for method in methods}, methods)


if __name__ == "__main__":
    unittest.main()
