"""The rules of the language that can be read off the files, and where the interface is defined."""

import ast
import builtins
import os
import re
import unittest

ROOT = os.path.dirname(os.path.dirname(os.path.abspath(__file__)))
PACKAGE = os.path.join(ROOT, "cardsback")

# Each function of the interface that has landed, with how many arguments it takes.
FUNCTIONS = {
    "days": {"is_day": 1, "is_home": 1, "is_name": 1, "weekday": 1, "next_home": 2},
    "pages": {"is_page": 1, "page_day": 1, "page_kind": 1, "names_of": 1, "stands_ahead": 2, "in_order": 1},
    "books": {"is_book": 1, "with_page": 2, "without_page": 2, "both_books": 2, "up_to": 2, "apart": 2},
    "standing": {"standing": 2, "came": 2, "idle": 2, "home_of": 3},
    "heirs": {"heir": 3, "parted_from": 3},
    "athome": {"at_home": 3, "home_days": 4},
    "mourning": {"mourns": 3, "mourning_days": 4},
    "walking": {"dues": 3, "marks": 3},
    "answering": {"answered": 3, "would": 4},
    "lasts": {"left": 2, "last": 4},
    "wanted": {"wanted": 5},
    "owing": {"owes": 5, "matters": 3, "sums": 3},
    "rudes": {"rude": 3, "rude_papers": 3},
    "rudechecker": {"lets_rude": 4},
    "soon": {"soon": 5, "first_rude": 3},
    "wants": {"is_wants": 1, "all_days": 1, "with_day": 3, "with_want": 3, "without_want": 2},
    "rounds": {"lets_round": 3, "days_of": 1},
    "crowds": {"lets_crowd": 3},
    "serving": {"served": 3, "any_round": 2},
    "casechecker": {"lets_cases": 4},
    "fewest": {"fewest": 2, "day_sets": 3},
    "rows": {"in_a_row": 1, "row_round": 1},
    "worths": {"day_worth": 4, "want_worth": 2, "place_worth": 1},
    "plans": {"plan": 6, "followed": 3, "home_worth": 7},
    "texts": {"page_line": 1, "book_lines": 1, "due_line": 1, "cases_line": 1},
    "readings": {"read_page": 1, "read_book": 1, "read_cases": 1},
    "sayings": {"sayings": 2, "is_sayings": 2},
    "ranking": {"ranked": 2, "goes_ahead": 4},
    "ringchecker": {"lets_order": 3, "lets_ring": 3},
    "adding": {"would_ring": 3, "between": 4, "places": 3},
    "ringsapart": {"lets_apart": 3},
    "lettingchecker": {"lets_letting": 4},
    "letting": {"let_go": 2},
    "bookranks": {"ranks": 2, "first_of": 3},
}

# Each class of the interface that has landed, with its methods, and how many arguments these take beside self.
METHODS = {
    "albums": {"Album": {"__init__": 1, "tell": 1, "strike": 1, "take_in": 1, "back": 0, "book": 0, "terms": 0,
                         "deeds": 0, "elder": 1}},
    "desk": {"Desk": {"__init__": 0, "say": 1}},
}

ERRORS = ("CardsError", "NoPaper", "NoHouse", "NoPage", "NoCrowd", "NoOrder", "NoDue", "TooMany", "NoBack", "NoText",
          "NoRow")

WORDS = ("type", "typing", "typing_extensions", "enum", "Enum", "IntEnum", "StrEnum", "Flag", "IntFlag", "Generic",
         "Protocol", "ABC", "ABCMeta", "namedtuple", "NamedTuple", "TypedDict", "TYPE_CHECKING", "abstractmethod")

BUILTINS = ("len", "range", "enumerate", "zip", "min", "max", "sum", "abs", "sorted", "reversed", "int", "str", "bool",
            "list", "tuple", "dict", "set", "isinstance", "ord", "repr", "any", "all", "divmod", "ValueError", "super")


def sources():
    for name in sorted(os.listdir(PACKAGE)):
        if name == "__pycache__":
            continue
        with open(os.path.join(PACKAGE, name), encoding="utf-8", newline="") as file:
            yield name, file.read()


def trees():
    for name, text in sources():
        yield name, ast.parse(text)


def names_bound(tree):
    """All names that functions, classes, parameters, imports and assignments of a file bind."""
    for node in ast.walk(tree):
        if isinstance(node, (ast.FunctionDef, ast.ClassDef)):
            yield node.name
        elif isinstance(node, ast.arg):
            yield node.arg
        elif isinstance(node, ast.alias):
            yield node.asname or node.name
        elif isinstance(node, ast.Name) and isinstance(node.ctx, ast.Store):
            yield node.id


def methods_of(tree):
    """All methods of the classes of a file."""
    classes = [node for node in tree.body if isinstance(node, ast.ClassDef)]
    return [node for one in classes for node in one.body if isinstance(node, ast.FunctionDef)]


class FilesTest(unittest.TestCase):
    def test_only_plain_files(self):
        for name, text in sources():
            self.assertRegex(name, r"^[a-z0-9_]+\.py$")
            self.assertFalse([sign for sign in text if sign != "\n" and not " " <= sign <= "~"], name)
            self.assertTrue(text.endswith("\n"), name)

    def test_sizes(self):
        for name, text in sources():
            self.assertLessEqual(len(text.split("\n")), 399, name)
            self.assertLessEqual(max(len(line) for line in text.split("\n")), 120, name)
        for name, tree in trees():
            for node in ast.walk(tree):
                if isinstance(node, ast.FunctionDef):
                    self.assertLessEqual(node.end_lineno - node.lineno + 1, 40, (name, node.name))

    def test_words(self):
        for name, text in sources():
            for word in WORDS:
                self.assertIsNone(re.search(rf"\b{word}\b", text), (name, word))

    def test_strings(self):
        for name, tree in trees():
            for node in ast.walk(tree):
                if isinstance(node, ast.Constant):
                    self.assertNotIsInstance(node.value, (float, complex, bytes), name)
                    self.assertNotIn("%", str(node.value), name)
                self.assertFalse(isinstance(node, (ast.Div, ast.Global, ast.Try)), name)


class NamesTest(unittest.TestCase):
    def test_imports(self):
        for name, tree in trees():
            for node in ast.walk(tree):
                self.assertNotIsInstance(node, ast.Import, name)
                if isinstance(node, ast.ImportFrom):
                    self.assertIn(node, tree.body, name)
                    self.assertEqual(node.level, 0, name)
                    self.assertRegex(node.module, r"^cardsback\.[a-z]+$")
                    self.check_defined(node)

    def check_defined(self, node):
        path = os.path.join(PACKAGE, node.module.split(".")[1] + ".py")
        with open(path, encoding="utf-8") as file:
            body = ast.parse(file.read()).body
        there = [one.name for one in body if isinstance(one, (ast.FunctionDef, ast.ClassDef))]
        there += [one.targets[0].id for one in body if isinstance(one, ast.Assign)]
        for alias in node.names:
            self.assertIn(alias.name, there)

    def test_no_two_files_import_from_each_other(self):
        wants = {}
        for name, tree in trees():
            wants[name[:-3]] = {node.module.split(".")[1] for node in tree.body if isinstance(node, ast.ImportFrom)}
        while wants:
            free = [name for name in wants if not wants[name] & set(wants)]
            self.assertTrue(free, wants)
            for name in free:
                del wants[name]

    def test_names(self):
        for name, tree in trees():
            for bound in names_bound(tree):
                if bound != "__init__":
                    self.assertRegex(bound, r"^[A-Za-z][A-Za-z0-9_]*$", name)
                self.assertNotIn(bound, dir(builtins), name)

    def test_builtins(self):
        for name, tree in trees():
            known = set(names_bound(tree)) | set(BUILTINS)
            for node in ast.walk(tree):
                if isinstance(node, ast.Name):
                    self.assertIn(node.id, known, name)

    def test_no_local_name_is_that_of_an_import_or_a_class(self):
        for name, tree in trees():
            taken = {alias.name for node in tree.body if isinstance(node, ast.ImportFrom) for alias in node.names}
            taken |= {node.name for node in tree.body if isinstance(node, ast.ClassDef)}
            functions = [node for node in ast.walk(tree) if isinstance(node, ast.FunctionDef)]
            for node in functions + [node for node in tree.body if isinstance(node, ast.Assign)]:
                bound = set(names_bound(node)) - ({node.name} if node in methods_of(tree) else set())
                self.assertFalse(taken & bound, name)


class InterfaceTest(unittest.TestCase):
    def test_functions_are_defined_in_their_files(self):
        found = {name[:-3]: tree for name, tree in trees()}
        for module, functions in FUNCTIONS.items():
            there = {node.name: node.args for node in found[module].body if isinstance(node, ast.FunctionDef)}
            for function, many in functions.items():
                self.assertIn(function, there, module)
                args = there[function]
                self.assertEqual(len(args.args), many, function)
                self.assertFalse(args.defaults or args.vararg or args.kwarg or args.kwonlyargs, function)

    def test_methods_are_defined_in_their_classes(self):
        found = {name[:-3]: tree for name, tree in trees()}
        for module, classes in METHODS.items():
            for name, methods in classes.items():
                body = [node for node in found[module].body if isinstance(node, ast.ClassDef) and node.name == name][0]
                there = {node.name: node.args for node in body.body if isinstance(node, ast.FunctionDef)}
                for method, many in methods.items():
                    self.assertEqual(len(there[method].args), many + 1, method)
                    self.assertFalse(there[method].defaults or there[method].vararg, method)

    def test_no_name_is_a_method_and_an_attribute(self):
        methods, assigned, used = set(), set(), set()
        for name, tree in trees():
            for node in ast.walk(tree):
                if isinstance(node, ast.ClassDef):
                    methods |= {one.name for one in node.body if isinstance(one, ast.FunctionDef)}
                elif isinstance(node, ast.Attribute) and isinstance(node.ctx, ast.Store):
                    assigned.add(node.attr)
                elif isinstance(node, ast.Attribute):
                    used.add(node.attr)
        self.assertFalse(methods & assigned)
        builtin = {one for kind in (str, list, dict) for one in dir(kind)}
        self.assertFalse(used - assigned - methods - builtin)

    def test_errors_are_defined_in_their_file(self):
        tree = dict(trees())["errors.py"]
        self.assertEqual(tuple(node.name for node in tree.body if isinstance(node, ast.ClassDef)), ERRORS)


if __name__ == "__main__":
    unittest.main()
