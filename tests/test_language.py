"""Tests that the package keeps to the rules of LANGUAGE.md that a plain look at its files shows, and to the interface."""

import ast
import builtins
import re
import unittest
from pathlib import Path

PACKAGE = Path(__file__).resolve().parent.parent / "mashrunnings"
BARRED_WORDS = re.compile(
    r"\b(type|typing|typing_extensions|enum|Enum|IntEnum|StrEnum|Flag|IntFlag|Generic|Protocol|ABC|ABCMeta|namedtuple"
    r"|NamedTuple|TypedDict|TYPE_CHECKING|abstractmethod)\b|dataclass|overload|contextmanager"
)
BUILTINS = set(
    "len range enumerate zip min max sum abs sorted reversed int str bool list tuple dict set isinstance ord repr any all"
    " divmod iter next super ValueError KeyError IndexError LookupError ZeroDivisionError NotImplemented".split()
)
METHODS = set(
    "append clear copy count endswith extend find get index insert isalnum isalpha isdigit islower isspace isupper items"
    " join keys ljust lower lstrip partition pop remove replace reverse rfind rjust rpartition rsplit rstrip setdefault"
    " split splitlines startswith strip update upper values zfill bit_length title capitalize swapcase casefold center"
    " expandtabs removeprefix removesuffix rindex isascii isdecimal isnumeric istitle isidentifier isprintable sort add"
    " discard __init__".split()
)
BARRED_NODES = (ast.Global, ast.AsyncFunctionDef, ast.Await, ast.Import, ast.TryStar, ast.Div)
FRACTIONS = "is_fraction made plus less times over is_under rounded_up fraction_text fraction_in"
INTERFACE = {
    "errors": "BrewError BadFraction NoShare TooMuch NoEntry NoThing BadRow".split(),
    "fractions": FRACTIONS.split(),
    "worts": "is_wort points_of strength_of poured parted weakened".split(),
    "mashes": ["Mash"],
    "wishes": "is_wish running_of reaches cost_of worth_of".split(),
    "mixings": "shows_mixing strengths_of rests_of".split(),
    "making": "shows_none made_of".split(),
    "leasts": "many_times least_of shows_least grain_of".split(),
    "vessels": "stays_of housed shows_lack shows_plan".split(),
    "weaker": "made_weaker still_good fewest_changed shows_fewest".split(),
    "rates": "are_rates rate_of pence_of bill_of".split(),
    "deeds": "is_deed names_in".split(),
    "book": ["Book"],
    "accounts": ["Account"],
    "traces": "runnings_in malts_in casks_of mash_of sums_of unlike_casks".split(),
    "texts": "book_text book_of".split(),
    "desk": ["run"],
}
INTERFACE_METHODS = {
    "Mash": "__init__ liquor pour draw most_drawn give_back inside solved in_grains twin_mash".split(),
    "Book": "__init__ enter put_right strike undo entry entries times as_entered twin_book prices duty".split(),
    "Account": "__init__ rows voids names left first mash_left sold given gone last_hour".split(),
}
ARGUMENTS = {
    "Mash": "malts share held", "liquor": "gallons", "pour": "wort", "draw": "gallons", "give_back": "parts",
    "is_wish": "thing", "running_of": "wort", "reaches": "runnings wish", "cost_of": "runnings wish prices",
    "worth_of": "runnings prices", "shows_mixing": "runnings wishes thing", "strengths_of": "runnings mixing",
    "rests_of": "runnings mixing", "shows_none": "runnings wishes thing", "made_of": "runnings wishes",
    "many_times": "runnings times", "least_of": "runnings wishes", "shows_least": "runnings wishes times mixing thing",
    "grain_of": "malts times", "stays_of": "runnings_at wishes mixing days", "housed": "vessels stays",
    "shows_lack": "vessels stays thing", "shows_plan": "vessels stays thing", "made_weaker": "runnings number points",
    "still_good": "runnings wishes mixing", "fewest_changed": "runnings wishes mixing number points",
    "shows_fewest": "runnings wishes mixing number points many thing", "are_rates": "thing",
    "rate_of": "rates strength", "pence_of": "rates wort", "bill_of": "prices duty worts", "is_deed": "thing",
    "names_in": "deed", "Book": "prices duty", "enter": "hour deed", "put_right": "number hour deed", "strike": "number",
    "undo": "", "entry": "number", "as_entered": "many", "Account": "book hour", "names": "sort", "left": "sort name", "first": "sort name",
    "mash_left": "mash", "gone": "kind", "last_hour": "", "runnings_in": "account sort name", "malts_in": "account sort name",
    "casks_of": "account running", "mash_of": "account running", "sums_of": "account", "unlike_casks": "one other",
    "book_text": "book", "book_of": "text", "run": "text",
}


def files():
    return sorted(PACKAGE.glob("*.py"))


def own_names(tree):
    """All names that a file binds anywhere."""
    found = set()
    for node in ast.walk(tree):
        if isinstance(node, (ast.FunctionDef, ast.ClassDef)):
            found.add(node.name)
        elif isinstance(node, ast.arg):
            found.add(node.arg)
        elif isinstance(node, ast.Name) and isinstance(node.ctx, ast.Store):
            found.add(node.id)
        elif isinstance(node, ast.alias):
            found.add(node.asname or node.name)
        elif isinstance(node, ast.ExceptHandler) and node.name:
            found.add(node.name)
    return found


def methods_of_all():
    found = set()
    for path in files():
        for node in ast.walk(ast.parse(path.read_text())):
            if isinstance(node, ast.ClassDef):
                found.update(part.name for part in node.body if isinstance(part, ast.FunctionDef))
    return found


class LanguageTest(unittest.TestCase):
    def trees(self):
        return [(path.name, ast.parse(path.read_text())) for path in files()]

    def test_the_folder_has_plain_files_only(self):
        for path in PACKAGE.iterdir():
            if path.name != "__pycache__":
                self.assertRegex(path.name, "^(__init__|__main__|[a-z][a-z0-9_]*)[.]py$")

    def test_sizes_and_signs(self):
        for path in files():
            text = path.read_text(encoding="utf-8")
            self.assertRegex(text, r"\A[\n -~]*\n\Z", path.name)
            self.assertLess(len(text.splitlines()), 400, path.name)
            self.assertLessEqual(max(len(line) for line in text.splitlines()), 120, path.name)
            self.assertIsNone(BARRED_WORDS.search(text), path.name)

    def test_functions_are_short(self):
        for name, tree in self.trees():
            for node in ast.walk(tree):
                if isinstance(node, ast.FunctionDef):
                    self.assertLessEqual(node.end_lineno - node.lineno + 1, 40, (name, node.name))

    def test_imports_name_own_files(self):
        known = {f"mashrunnings.{path.stem}" for path in files()}
        for name, tree in self.trees():
            for node in ast.walk(tree):
                if isinstance(node, ast.ImportFrom):
                    self.assertIn(node, tree.body, name)
                    self.assertEqual(node.level, 0, name)
                    self.assertIn(node.module, known, name)

    def test_imported_names_are_defined_there(self):
        defined = {}
        for name, tree in self.trees():
            bound = {node.name for node in tree.body if isinstance(node, (ast.FunctionDef, ast.ClassDef))}
            bound |= {node.targets[0].id for node in tree.body if isinstance(node, ast.Assign)}
            defined["mashrunnings." + name.removesuffix(".py")] = bound
        for name, tree in self.trees():
            for node in ast.walk(tree):
                if isinstance(node, ast.ImportFrom):
                    for alias in node.names:
                        self.assertIn(alias.name, defined[node.module], name)

    def test_module_level_is_plain(self):
        for name, tree in self.trees():
            for node in tree.body:
                plain = isinstance(node, (ast.ImportFrom, ast.FunctionDef, ast.ClassDef, ast.Assign))
                docstring = isinstance(node, ast.Expr) and isinstance(node.value, ast.Constant)
                self.assertTrue(plain or docstring, (name, node.lineno))

    def test_no_barred_statements_or_signs(self):
        for name, tree in self.trees():
            for node in ast.walk(tree):
                self.assertNotIsInstance(node, BARRED_NODES, name)
                if isinstance(node, ast.Constant):
                    self.assertNotIsInstance(node.value, (float, complex), (name, node.lineno))
                    self.assertFalse(isinstance(node.value, str) and "%" in node.value, (name, node.lineno))
                if isinstance(node, ast.Compare):
                    for sign, side in zip(node.ops, node.comparators):
                        if isinstance(sign, (ast.Is, ast.IsNot)):
                            self.assertTrue(isinstance(side, ast.Constant) and side.value in (None, True, False), name)
                if isinstance(node, ast.BinOp) and isinstance(node.op, ast.Pow):
                    self.assertTrue(isinstance(node.right, ast.Constant) and node.right.value <= 64, (name, node.lineno))

    def test_names_are_plain_and_known(self):
        methods = METHODS | methods_of_all()
        for name, tree in self.trees():
            own = own_names(tree)
            for word in own - methods_of_all():
                self.assertFalse(word.startswith("_"), (name, word))
                self.assertNotIn(word, dir(builtins), name)
            for node in ast.walk(tree):
                if isinstance(node, ast.Name) and isinstance(node.ctx, ast.Load):
                    self.assertIn(node.id, own | BUILTINS, (name, node.lineno))
                if isinstance(node, ast.Call) and isinstance(node.func, ast.Attribute):
                    self.assertIn(node.func.attr, methods, (name, node.lineno))


    def test_no_local_name_is_that_of_an_import(self):
        for name, tree in self.trees():
            imported = {alias.name for node in tree.body if isinstance(node, ast.ImportFrom) for alias in node.names}
            bound = [node.arg for node in ast.walk(tree) if isinstance(node, ast.arg)]
            bound += [node.id for node in ast.walk(tree) if isinstance(node, ast.Name) and isinstance(node.ctx, ast.Store)]
            self.assertEqual(imported & set(bound), set(), name)

    def test_each_name_at_module_level_is_bound_once(self):
        for name, tree in self.trees():
            bound = []
            for node in tree.body:
                if isinstance(node, (ast.FunctionDef, ast.ClassDef)):
                    bound.append(node.name)
                elif isinstance(node, ast.Assign):
                    bound.extend(target.id for target in node.targets)
                elif isinstance(node, ast.ImportFrom):
                    bound.extend(alias.asname or alias.name for alias in node.names)
            self.assertEqual(len(bound), len(set(bound)), name)

    def test_no_name_is_a_method_and_an_attribute(self):
        attributes, read = set(), set()
        for name, tree in self.trees():
            for node in ast.walk(tree):
                if isinstance(node, ast.Attribute):
                    (attributes if isinstance(node.ctx, ast.Store) else read).add(node.attr)
        self.assertEqual(attributes & (methods_of_all() | METHODS), set())
        self.assertEqual(read - attributes - methods_of_all() - METHODS, set())

    def test_no_two_files_import_from_each_other(self):
        needs = {}
        for name, tree in self.trees():
            stems = [node.module.split(".")[1] for node in tree.body if isinstance(node, ast.ImportFrom)]
            needs[name.removesuffix(".py")] = set(stems)
        while needs:
            free = {stem for stem, others in needs.items() if not others & set(needs)}
            self.assertNotEqual(free, set(), needs)
            needs = {stem: others for stem, others in needs.items() if stem not in free}


class InterfaceTest(unittest.TestCase):
    def test_each_method_is_defined_in_its_class(self):
        found = {}
        for path in files():
            for node in ast.walk(ast.parse(path.read_text())):
                if isinstance(node, ast.ClassDef):
                    found[node.name] = [part.name for part in node.body if isinstance(part, ast.FunctionDef)]
        for name, methods in INTERFACE_METHODS.items():
            for method in methods:
                self.assertEqual(found[name].count(method), 1, (name, method))

    def test_arguments_are_as_written(self):
        told = {}
        for path in files():
            for node in ast.walk(ast.parse(path.read_text())):
                if isinstance(node, ast.FunctionDef):
                    told[node.name] = [part.arg for part in node.args.args if part.arg != "self"]
                elif isinstance(node, ast.ClassDef):
                    own = [part for part in node.body if isinstance(part, ast.FunctionDef) and part.name == "__init__"]
                    told.update({node.name: [part.arg for part in made.args.args[1:]] for made in own})
        for name, words in ARGUMENTS.items():
            self.assertEqual(told[name], words.split(), name)

    def test_each_name_is_defined_in_its_file(self):
        for stem, names in INTERFACE.items():
            tree = ast.parse((PACKAGE / f"{stem}.py").read_text())
            defined = [node.name for node in tree.body if isinstance(node, (ast.FunctionDef, ast.ClassDef))]
            for name in names:
                self.assertEqual(defined.count(name), 1, (stem, name))


if __name__ == "__main__":
    unittest.main()
