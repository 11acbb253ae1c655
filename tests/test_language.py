"""The rules of the language that a look at the files can hold the package against, and the interface's names."""

import ast
import builtins
import pathlib
import re
import unittest

FOLDER = pathlib.Path(__file__).resolve().parent.parent / "anyscribe"
FILES = sorted(path for path in FOLDER.rglob("*") if "__pycache__" not in path.parts)

BUILTINS = set("""len range enumerate zip min max sum abs sorted reversed int str bool list tuple dict set isinstance ord
    repr any all divmod pow iter next map type super Exception ValueError TypeError KeyError IndexError LookupError
    NotImplemented""".split())
LIBRARY = {"heapq": set("heappush heappop heapify heapreplace heappushpop".split()),
           "math": set("gcd lcm isqrt comb perm factorial".split()),
           "itertools": set("product combinations permutations chain accumulate pairwise islice zip_longest".split()),
           "collections": {"defaultdict", "deque"}, "__future__": {"annotations"}}
METHODS = set("""append clear copy count endswith extend find get index insert isalnum isalpha isdigit islower isspace
    isupper items join keys ljust lower lstrip partition pop remove replace reverse rfind rjust rpartition rsplit rstrip
    setdefault split splitlines startswith strip update upper values zfill bit_length add discard appendleft popleft
    sort __init__""".split())
BARRED = re.compile(r"\b(type|typing|enum|Enum|Flag|Generic|Protocol|ABC|namedtuple|register|mro|elements|open|input"
                    r"|law|eval|exec|exit|id|vars|dir|locals|globals|os|sys)\b")
STATEMENTS = (ast.AsyncFunctionDef, ast.AsyncFor, ast.AsyncWith, ast.Await, ast.Global, ast.Div, ast.MatMult)

INTERFACE = {
    "errors": """ScribeError BadLetters BadText BadKinds BadDeed TooLong BadReader Unlike TooMany BadNumber NotText
        InvalidText NoLetter Unknown Twice BadKind BadLots NoWay NotApart BadMender BadTexts BadReaders NothingDone
        InvalidDesk""",
    "texts": "deeds done copies",
    "readers": """is_reader verdict are_alike is_endless stands_come_to least both either less parting least_text count
        listed""",
    "books": "reader_of",
    "printing": "printed",
    "copying": "comes comes_in_order comes_by is_kept are_orders_alike",
    "ways": "fewest way origin leads",
    "standing": "bears turned borne paper judged",
    "parting": "are_apart meeting teller most_kinds can_meet greatest_lot",
    "menders": "mended mending is_one_way overlap failing brings_back",
    "running": "run",
    "desks": "Desk desk_of",
    "reading": "check",
}


def names_bound(tree):
    """All names that a file gives a meaning to: arguments, targets, functions, classes, imports."""
    for node in ast.walk(tree):
        if isinstance(node, (ast.FunctionDef, ast.ClassDef)):
            yield node.name
        elif isinstance(node, ast.arg):
            yield node.arg
        elif isinstance(node, ast.Name) and not isinstance(node.ctx, ast.Load):
            yield node.id
        elif isinstance(node, ast.alias):
            yield node.asname or node.name


def imports_of(tree):
    return [node for node in ast.walk(tree) if isinstance(node, (ast.Import, ast.ImportFrom))]


class Language(unittest.TestCase):
    def setUp(self):
        self.texts = {path.stem: path.read_text(encoding="utf-8") for path in FILES if path.suffix == ".py"}
        self.trees = {name: ast.parse(text) for name, text in self.texts.items()}

    def test_files(self):
        for path in FILES:
            self.assertRegex(path.name, r"^(__init__|__main__|[a-z][a-z0-9_]*)\.py$")

    def test_sizes_and_signs(self):
        for name, text in self.texts.items():
            self.assertRegex(text, r"\A[\n -~]*\Z", name)
            self.assertLessEqual(len(text.splitlines()), 399, name)
            self.assertLessEqual(max(map(len, text.splitlines())), 120, name)
            for node in ast.walk(self.trees[name]):
                if isinstance(node, ast.FunctionDef):
                    self.assertLessEqual(node.end_lineno - node.lineno + 1, 40, node.name)

    def test_imports(self):
        for name, tree in self.trees.items():
            for node in imports_of(tree):
                self.assertIsInstance(node, ast.ImportFrom, name)
                self.assertIn(node, tree.body, name)
                for alias in node.names:
                    self.assertIsNone(alias.asname, name)
                    if node.module in LIBRARY:
                        self.assertIn(alias.name, LIBRARY[node.module], name)
                    else:
                        self.assertIn(alias.name, self.bound_at_top(node.module), name)

    def bound_at_top(self, module):
        package, stem = module.split(".")
        self.assertEqual(package, "anyscribe")
        found = []
        for node in self.trees[stem].body:
            if isinstance(node, (ast.FunctionDef, ast.ClassDef)):
                found.append(node.name)
            elif isinstance(node, ast.Assign):
                found.append(node.targets[0].id)
        return found

    def test_no_two_files_import_from_each_other(self):
        needs = {name: [node.module.split(".")[1] for node in imports_of(tree) if node.module.startswith("anyscribe.")]
                 for name, tree in self.trees.items()}
        while needs:
            free = [name for name, wanted in needs.items() if not any(each in needs for each in wanted)]
            self.assertTrue(free, needs)
            needs = {name: wanted for name, wanted in needs.items() if name not in free}

    def test_names(self):
        for name, tree in self.trees.items():
            bound = list(names_bound(tree))
            for each in bound:
                self.assertFalse(each != "__init__" and hasattr(builtins, each), f"{name}: {each}")
            own = set(bound)
            for node in ast.walk(tree):
                if isinstance(node, ast.Name) and node.id not in own:
                    self.assertIn(node.id, BUILTINS, name)
            fixed = {alias.name for node in imports_of(tree) for alias in node.names}
            for node in ast.walk(tree):
                if isinstance(node, ast.FunctionDef):
                    self.assertFalse(fixed & set(names_bound(ast.Module(node.body, []))), f"{name}: {node.name}")
                    self.assertFalse(fixed & {arg.arg for arg in node.args.args}, f"{name}: {node.name}")

    def test_nothing_outside_of_the_language(self):
        # A method may be called in other files than the one that defines it.
        own = {each.name for tree in self.trees.values() for node in ast.walk(tree) if isinstance(node, ast.ClassDef)
               for each in node.body if isinstance(each, ast.FunctionDef)}
        for name, tree in self.trees.items():
            for node in ast.walk(tree):
                self.assertNotIsInstance(node, STATEMENTS, name)
                if isinstance(node, ast.Constant):
                    self.assertNotIsInstance(node.value, (float, complex), name)
                if isinstance(node, ast.Call) and isinstance(node.func, ast.Attribute):
                    self.assertIn(node.func.attr, METHODS | own, name)

    def test_only_plain_things_stand_at_module_level(self):
        plain = (ast.FunctionDef, ast.ClassDef, ast.ImportFrom, ast.Assign)
        for name, tree in self.trees.items():
            for node in tree.body[1:]:
                self.assertIsInstance(node, plain, name)
            self.assertIsNotNone(ast.get_docstring(tree), name)

    def test_barred_words(self):
        for name, tree in self.trees.items():
            for node in ast.walk(tree):
                for word in (getattr(node, "id", None), getattr(node, "attr", None), getattr(node, "arg", None)):
                    if isinstance(word, str):
                        self.assertNotRegex(word, r"\A" + BARRED.pattern + r"\Z", name)

    def test_interface_stands_in_its_files(self):
        for module, names in INTERFACE.items():
            self.assertLessEqual(set(names.split()), set(self.bound_at_top("anyscribe." + module)), module)


if __name__ == "__main__":
    unittest.main()
