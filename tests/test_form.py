"""The form of the package's files: a guard for those rules of the language that are easily broken unseen."""

import ast
import builtins
import os
import unittest

PACKAGE = os.path.join(os.path.dirname(os.path.dirname(os.path.abspath(__file__))), "threeexits")
LIBRARY = {"heapq": "heappush heappop heapify heapreplace heappushpop",
           "math": "gcd lcm isqrt comb perm factorial",
           "itertools": "product combinations permutations chain accumulate pairwise islice zip_longest",
           "collections": "defaultdict deque"}
BUILTINS = set("""len range enumerate zip min max sum abs sorted reversed int str bool list tuple dict set isinstance
    ord repr any all divmod pow map iter next getattr hasattr setattr type super
    ValueError TypeError KeyError IndexError LookupError NotImplemented""".split())
METHODS = set("""append clear copy count endswith extend find get index insert isalnum isalpha isdigit islower isspace
    isupper items join keys ljust lower lstrip partition pop remove replace reverse rfind rjust rpartition rsplit
    rstrip setdefault split splitlines startswith strip update upper values zfill bit_length add discard
    title capitalize swapcase casefold center expandtabs removeprefix removesuffix rindex isascii isdecimal
    isnumeric istitle isidentifier isprintable __init__ popleft appendleft""".split())
SPECIAL = set("__init__ __eq__ __repr__ __str__ __len__ __lt__ __le__ __gt__ __ge__ __iter__ __call__".split())
BARRED = set("""register mro elements open input law version_info with_traceback add_note attrgetter breakpoint builtins
    compile copyright credits delattr dir eval exec exit gc globals help id importlib license locals methodcaller os
    quit vars sys typing enum Enum Generic Protocol ABC namedtuple NamedTuple dataclass abstractmethod""".split())
EAGER = ("any", "all", "min", "max", "sum", "sorted")
LEFT_OUT = (ast.AsyncFunctionDef, ast.AsyncFor, ast.AsyncWith, ast.Await, ast.Div, ast.MatMult)


def names_of(path):
    return sorted(name for name in os.listdir(path) if name != "__pycache__")


def sources():
    """A dict from the names of the package's files to their texts."""
    texts = {}
    for name in names_of(PACKAGE):
        with open(os.path.join(PACKAGE, name), encoding="utf-8", newline="") as file:
            texts[name] = file.read()
    return texts


def trees():
    return {name: ast.parse(text) for name, text in sources().items()}


def nodes(*kinds):
    """Pairs of a place to look at and a node, for all nodes of these kinds in the package."""
    return [(f"{name}:{getattr(node, 'lineno', 0)}", node) for name, tree in trees().items()
            for node in ast.walk(tree) if isinstance(node, kinds)]


def defined(tree):
    """The names that a file binds itself at module level."""
    found = [node.name for node in tree.body if isinstance(node, (ast.FunctionDef, ast.ClassDef))]
    for node in tree.body:
        if isinstance(node, ast.Assign):
            found += [target.id for target in node.targets]
    return found


def imported(tree):
    return [(node.module, alias.name) for node in tree.body if isinstance(node, ast.ImportFrom)
            for alias in node.names]


def bound(tree):
    """All names that are given a meaning anywhere in a file, but attributes and methods."""
    inside = {id(node) for cls in ast.walk(tree) if isinstance(cls, ast.ClassDef) for node in cls.body}
    for node in ast.walk(tree):
        if isinstance(node, ast.Name) and not isinstance(node.ctx, ast.Load):
            yield node.id
        elif isinstance(node, ast.arg):
            yield node.arg
        elif isinstance(node, (ast.FunctionDef, ast.ClassDef)) and id(node) not in inside:
            yield node.name


class Form(unittest.TestCase):
    def test_files(self):
        for name, text in sources().items():
            with self.subTest(name):
                self.assertRegex(name, r"^[a-z_][a-z0-9_]*\.py$")
                self.assertEqual(set(text) - {"\n"} - {chr(code) for code in range(32, 127)}, set())
                lines = text.split("\n")
                self.assertLessEqual(len(lines), 400)
                self.assertLessEqual(max(len(line) for line in lines), 120)
                self.assertNotIn("_wall", text)

    def test_functions_are_small(self):
        for at, node in nodes(ast.FunctionDef):
            self.assertLessEqual(node.end_lineno - node.lineno + 1, 40, at)
            self.assertEqual(node.decorator_list, [], at)

    def test_imports(self):
        files = trees()
        self.assertEqual(nodes(ast.Import), [])
        for name, tree in files.items():
            self.assertEqual(len(imported(tree)), sum(len(node.names) for node in ast.walk(tree)
                                                      if isinstance(node, ast.ImportFrom)), name)
            for module, what in imported(tree):
                if module in LIBRARY:
                    self.assertIn(what, LIBRARY[module].split(), name)
                else:
                    package, file = module.split(".")
                    self.assertEqual(package, "threeexits", name)
                    self.assertIn(what, defined(files[file + ".py"]), name)

    def test_no_circle_of_imports(self):
        needs = {name: {module.split(".")[1] + ".py" for module, _ in imported(tree) if module not in LIBRARY}
                 for name, tree in trees().items()}
        while needs:
            free = [name for name in needs if not needs[name] & set(needs)]
            self.assertTrue(free, needs)
            needs = {name: needs[name] for name in needs if name not in free}

    def test_module_level(self):
        kinds = (ast.ImportFrom, ast.FunctionDef, ast.ClassDef, ast.Assign)
        for name, tree in trees().items():
            for node in tree.body[1:]:
                self.assertIsInstance(node, kinds, name)
            self.assertIsInstance(tree.body[0], ast.Expr, name)
            names = defined(tree) + [what for _, what in imported(tree)]
            self.assertEqual(len(names), len(set(names)), name)

    def test_names(self):
        for name, tree in trees().items():
            outer = {what for _, what in imported(tree)}
            outer |= {node.name for node in tree.body if isinstance(node, ast.ClassDef)}
            for word in bound(tree):
                with self.subTest(name + ": " + word):
                    self.assertNotIn(word, dir(builtins))
                    self.assertNotIn(word, BARRED)
                    self.assertTrue(word == "_" or not word.startswith("_"))
            inner = {node.arg for node in ast.walk(tree) if isinstance(node, ast.arg)}
            inner |= {node.id for node in ast.walk(tree) if isinstance(node, ast.Name)
                      and not isinstance(node.ctx, ast.Load)}
            self.assertEqual(inner & outer, set(), name)

    def test_what_is_called_by_name(self):
        for name, tree in trees().items():
            known = set(bound(tree)) | {what for _, what in imported(tree)} | BUILTINS
            for node in ast.walk(tree):
                if isinstance(node, ast.Name):
                    self.assertIn(node.id, known, f"{name}:{node.lineno}")

    def test_methods(self):
        own = {node.name for _, cls in nodes(ast.ClassDef) for node in cls.body if isinstance(node, ast.FunctionDef)}
        for at, node in nodes(ast.Call):
            if isinstance(node.func, ast.Attribute):
                self.assertIn(node.func.attr, METHODS | own, at)
        self.assertEqual({name for name in own if name.startswith("__")} - SPECIAL, set())

    def test_what_is_left_out(self):
        self.assertEqual(nodes(*LEFT_OUT), [])
        for at, node in nodes(ast.Constant):
            self.assertNotIsInstance(node.value, (float, complex), at)
            if isinstance(node.value, str):
                self.assertNotIn(chr(37), node.value, at)

    def test_lists_where_generators_are_barred(self):
        for at, node in nodes(ast.Call):
            if isinstance(node.func, ast.Name) and node.func.id in EAGER:
                self.assertFalse([one for one in node.args if isinstance(one, ast.GeneratorExp)], at)

    def test_is_only_beside_none_and_flags(self):
        for at, node in nodes(ast.Compare):
            for sign, right in zip(node.ops, node.comparators):
                if isinstance(sign, (ast.Is, ast.IsNot)):
                    self.assertIsInstance(right, ast.Constant, at)


if __name__ == "__main__":
    unittest.main()
