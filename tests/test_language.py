"""The rules of the language subset that can be seen in the files themselves."""

import ast
import builtins
import os
import re
import unittest

ROOT = os.path.dirname(os.path.dirname(os.path.abspath(__file__)))
PACKAGE = os.path.join(ROOT, "lotsandties")

BUILTINS = set("""
    len range enumerate zip min max sum abs sorted reversed int str bool list tuple dict set isinstance ord repr
    any all divmod iter next map type property staticmethod classmethod super NotImplemented
    Exception ValueError TypeError KeyError IndexError LookupError ZeroDivisionError ArithmeticError OverflowError
    RuntimeError NotImplementedError AttributeError StopIteration
""".split())

METHODS = set("""
    append clear copy count endswith extend find get index insert isalnum isalpha isdigit islower isspace isupper
    items join keys ljust lower lstrip partition pop remove replace reverse rfind rjust rpartition rsplit rstrip
    setdefault split splitlines startswith strip update upper values zfill bit_length sort add discard isascii
    removeprefix removesuffix appendleft popleft
""".split())

LIBRARY = {
    "heapq": {"heappush", "heappop", "heapify", "heapreplace", "heappushpop"},
    "math": {"gcd", "lcm", "isqrt", "comb", "perm", "factorial"},
    "itertools": {"product", "combinations", "permutations", "chain", "accumulate", "pairwise", "islice",
                  "zip_longest"},
    "collections": {"defaultdict", "deque"},
}

DUNDERS = set("""
    __init__ __eq__ __repr__ __str__ __len__ __enter__ __exit__ __call__ __iter__ __lt__ __le__ __gt__ __ge__ __ne__
    __add__ __sub__ __mul__ __and__ __or__ __xor__ __neg__ __bool__ __contains__ __getitem__ __setitem__
""".split())

BARRED_NAMES = set("""
    register mro elements open input law version_info with_traceback add_note attrgetter breakpoint builtins compile
    copyright credits delattr dir eval exec exit gc globals help id importlib license locals methodcaller os quit
    setattr vars sys
""".split())

BARRED_WORDS = re.compile(
    r"\b(typing|typing_extensions|enum|Enum|IntEnum|StrEnum|Flag|IntFlag|Generic|Protocol|ABC|ABCMeta|namedtuple"
    r"|NamedTuple|TypedDict|TYPE_CHECKING|abstractmethod)\b|dataclass|overload|contextmanager"
)

# L12: names that are not used, and beginnings that names do not have.
BARRED_FORMS = re.compile(
    r"_wall|_pe_|_dcw_|_enum_|_cm_|_twin_re_|_lay_|_law_|_stub_|_sre|_WallAttr"
    r"|(_cold|_tuplegetter|_outside|_record|_written_out|_member_names)[0-9_]*$"
)

BARRED_NODES = (
    ast.AsyncFunctionDef, ast.AsyncFor, ast.AsyncWith, ast.Await, ast.Import, ast.Div, ast.MatMult, ast.MatchMapping,
)


def package_files():
    return sorted(name for name in os.listdir(PACKAGE) if name != "__pycache__")


def read_file(name):
    with open(os.path.join(PACKAGE, name), encoding="utf-8") as file:
        return file.read()


def trees():
    return {name: ast.parse(read_file(name)) for name in package_files()}


def functions_of(tree):
    return [node for node in ast.walk(tree) if isinstance(node, ast.FunctionDef)]


def defined_names(tree):
    names = set()
    for node in tree.body:
        if isinstance(node, (ast.FunctionDef, ast.ClassDef)):
            names.add(node.name)
        elif isinstance(node, ast.Assign):
            names.update(target.id for target in node.targets)
    return names


def imports_of(tree):
    return [node for node in tree.body if isinstance(node, ast.ImportFrom)]


def bound_names(tree):
    names = set()
    for node in ast.walk(tree):
        if isinstance(node, ast.Name) and not isinstance(node.ctx, ast.Load):
            names.add(node.id)
        elif isinstance(node, (ast.FunctionDef, ast.ClassDef)):
            names.add(node.name)
        elif isinstance(node, ast.arg):
            names.add(node.arg)
        elif isinstance(node, ast.alias):
            names.add(node.asname or node.name)
        elif isinstance(node, ast.ExceptHandler) and node.name:
            names.add(node.name)
    return names


def own_attributes():
    names = set()
    for tree in trees().values():
        for node in ast.walk(tree):
            if isinstance(node, ast.ClassDef):
                for part in node.body:
                    if isinstance(part, ast.FunctionDef):
                        names.add(part.name)
                    elif isinstance(part, ast.Assign):
                        names.update(target.id for target in part.targets)
            elif isinstance(node, ast.Attribute) and isinstance(node.ctx, ast.Store):
                names.add(node.attr)
    return names


def docstrings_of(tree):
    found = []
    for node in ast.walk(tree):
        if isinstance(node, (ast.Module, ast.FunctionDef, ast.ClassDef)) and ast.get_docstring(node):
            found.append(node.body[0].value)
    return found


class LanguageTest(unittest.TestCase):
    def test_files(self):
        for name in package_files():
            self.assertRegex(name, r"^[a-z0-9_]+\.py$")
            text = read_file(name)
            self.assertNotRegex(text, r"[^ -~\n]", name)
            lines = text.split("\n")
            self.assertLess(len(lines), 400, name)
            self.assertLessEqual(max(len(line) for line in lines), 120, name)

    def test_functions_are_short(self):
        for name, tree in trees().items():
            for node in functions_of(tree):
                self.assertLessEqual(node.end_lineno - node.lineno + 1, 40, f"{name} {node.name}")

    def test_imports_name_the_file_that_defines_the_name(self):
        defined = {name[:-3]: defined_names(tree) for name, tree in trees().items()}
        for name, tree in trees().items():
            for node in imports_of(tree):
                self.assertEqual(node.level, 0, name)
                if node.module in LIBRARY:
                    known = LIBRARY[node.module]
                else:
                    package, module = node.module.split(".")
                    self.assertEqual(package, "lotsandties", name)
                    known = defined[module]
                for alias in node.names:
                    self.assertIsNone(alias.asname, name)
                    self.assertIn(alias.name, known, f"{name} imports from {node.module}")

    def test_no_imports_in_a_circle(self):
        needs = {}
        for name, tree in trees().items():
            modules = [node.module for node in imports_of(tree)]
            needs[name[:-3]] = {module.split(".")[1] for module in modules if module not in LIBRARY}
        while needs:
            free = [name for name in needs if not needs[name]]
            self.assertTrue(free, f"imports in a circle: {sorted(needs)}")
            needs = {name: needs[name] - set(free) for name in needs if name not in free}

    def test_all_imports_are_used(self):
        for name, tree in trees().items():
            used = {node.id for node in ast.walk(tree) if isinstance(node, ast.Name)}
            for node in imports_of(tree):
                for alias in node.names:
                    self.assertIn(alias.name, used, name)

    def test_module_level(self):
        for name, tree in trees().items():
            for node in tree.body:
                plain = isinstance(node, (ast.ImportFrom, ast.FunctionDef, ast.ClassDef, ast.Assign))
                docstring = isinstance(node, ast.Expr) and isinstance(node.value, ast.Constant)
                self.assertTrue(plain or docstring, f"{name} {node.lineno}")
                if isinstance(node, ast.Assign):
                    self.assertFalse([part for part in ast.walk(node.value) if isinstance(part, ast.Call)], name)

    def test_no_barred_statements_and_expressions(self):
        for name, tree in trees().items():
            for node in ast.walk(tree):
                if isinstance(node, ast.Try):
                    self.check_try(name, node)
                self.assertNotIsInstance(node, BARRED_NODES, name)
                self.assertFalse(isinstance(node, ast.Constant) and isinstance(node.value, float), name)
                if isinstance(node, ast.BinOp) and isinstance(node.op, ast.Pow):
                    self.assertIsInstance(node.right, ast.Constant, name)

    def check_try(self, name, node):
        for handler in node.handlers:
            self.assertIsInstance(handler.type, (ast.Name, ast.Tuple), name)
        caught = [part.id for handler in node.handlers for part in ast.walk(handler.type) if isinstance(part, ast.Name)]
        own = defined_names(trees()["errors.py"])
        for error in caught:
            self.assertIn(error, own | {"KeyError", "ZeroDivisionError"}, name)

    def test_names(self):
        everything = set(dir(builtins))
        for name, tree in trees().items():
            bound = bound_names(tree)
            for word in bound:
                self.assertFalse(word in everything and word not in DUNDERS, f"{name} {word}")
                self.assertNotIn(word, BARRED_NAMES, name)
                self.assertFalse(word.startswith("__") and word not in DUNDERS, f"{name} {word}")
                self.assertIsNone(BARRED_FORMS.match(word), f"{name} {word}")
            for node in ast.walk(tree):
                if isinstance(node, ast.Name) and node.id not in bound:
                    self.assertIn(node.id, BUILTINS, name)

    def test_local_names_are_not_those_of_imports_and_classes(self):
        for name, tree in trees().items():
            taken = {alias.name for node in imports_of(tree) for alias in node.names}
            taken |= {node.name for node in tree.body if isinstance(node, (ast.ClassDef, ast.FunctionDef))}
            for node in functions_of(tree):
                local = bound_names(ast.Module(body=node.body, type_ignores=[]))
                local |= {arg.arg for arg in ast.walk(node.args) if isinstance(arg, ast.arg)}
                self.assertEqual(local & taken, set(), f"{name} {node.name}")

    def test_attributes(self):
        own = own_attributes()
        for name, tree in trees().items():
            for node in ast.walk(tree):
                if isinstance(node, ast.Attribute):
                    self.assertIn(node.attr, own | METHODS | {"__init__"}, f"{name} {node.lineno}")

    def test_attributes_are_assigned_through_local_names(self):
        for name, tree in trees().items():
            for node in ast.walk(tree):
                if isinstance(node, ast.Attribute) and not isinstance(node.ctx, ast.Load):
                    self.assertIsInstance(node.value, ast.Name, f"{name} {node.lineno}")

    def test_no_name_is_a_method_and_an_attribute_of_one_class(self):
        for name, tree in trees().items():
            for node in ast.walk(tree):
                if isinstance(node, ast.ClassDef):
                    methods = {part.name for part in node.body if isinstance(part, ast.FunctionDef)}
                    kept = {part.attr for part in ast.walk(node) if isinstance(part, ast.Attribute)
                            and isinstance(part.ctx, ast.Store) and part.value.id == "self"}
                    self.assertEqual(methods & kept, set(), f"{name} {node.name}")

    def test_generators_are_iterated_at_once(self):
        generators = {node.name for tree in trees().values() for node in functions_of(tree)
                      if any(isinstance(part, (ast.Yield, ast.YieldFrom)) for part in ast.walk(node))}
        whole = {"list", "tuple", "dict", "sorted", "sum", "min", "max", "any", "all", "enumerate"}
        for name, tree in trees().items():
            called = [node.name for node in functions_of(tree) if node.name in generators]
            self.assertEqual(len(called), len(set(called)), name)
            fine = []
            for node in ast.walk(tree):
                if isinstance(node, (ast.For, ast.comprehension)):
                    fine.append(node.iter)
                elif isinstance(node, ast.Call) and isinstance(node.func, ast.Name) and node.func.id in whole:
                    fine.extend(node.args)
                elif isinstance(node, ast.YieldFrom):
                    fine.append(node.value)
            for node in ast.walk(tree):
                if isinstance(node, ast.Call) and isinstance(node.func, ast.Name) and node.func.id in generators:
                    self.assertIn(node, fine, f"{name} {node.lineno}")

    def test_strings_and_words(self):
        for name, tree in trees().items():
            docstrings = docstrings_of(tree)
            for node in ast.walk(tree):
                if isinstance(node, ast.Constant) and isinstance(node.value, str) and node not in docstrings:
                    self.assertNotIn("%", node.value, name)
                    self.assertNotRegex(node.value, BARRED_WORDS, name)
            for word in bound_names(tree):
                self.assertNotRegex(word, BARRED_WORDS, name)

    def test_kept_ranges_are_not_passed_on(self):
        kept = ("range", "zip", "enumerate", "reversed")
        for name, tree in trees().items():
            for node in ast.walk(tree):
                if isinstance(node, ast.Assign) and isinstance(node.value, ast.Call):
                    called = node.value.func
                    word = called.id if isinstance(called, ast.Name) else called.attr
                    self.assertNotIn(word, kept + ("items", "keys"), f"{name} {node.lineno}")


if __name__ == "__main__":
    unittest.main()
