"""The rules of the language that a program can see: each file of the package is read and checked."""

import ast
import builtins
import pathlib
import re
import tokenize
import unittest

PACKAGE = pathlib.Path(__file__).resolve().parent.parent / "allreadings"
FILES = sorted(PACKAGE.glob("*.py"))
BUILTINS = set(dir(builtins))
ALLOWED_BUILTINS = set(
    "len range enumerate zip min max sum abs sorted reversed int str bool list tuple dict set isinstance ord repr any"
    " all divmod True False None ValueError LookupError RuntimeError ArithmeticError KeyError".split())
LIBRARY = {
    "math": {"gcd", "lcm", "isqrt", "comb", "perm", "factorial"},
    "itertools": {"product", "combinations", "permutations"},
}
METHODS = set(
    "append clear copy count endswith extend find get index insert isalnum isalpha isdigit islower isspace isupper"
    " items join keys ljust lower lstrip partition pop remove replace reverse rfind rjust rpartition rsplit rstrip"
    " setdefault split splitlines startswith strip update upper values zfill bit_length".split())
CHANGING = set("append clear extend insert pop remove reverse setdefault update sort".split())
NEVER = set("register mro elements open input law version_info with_traceback add_note".split())
NOT_IN_STRINGS = (
    "typing typing_extensions enum Enum IntEnum StrEnum Flag IntFlag Generic Protocol ABC ABCMeta namedtuple"
    " NamedTuple TypedDict TYPE_CHECKING abstractmethod dataclass overload contextmanager").split()
NODES = (
    ast.Module, ast.ImportFrom, ast.alias, ast.FunctionDef, ast.ClassDef, ast.arguments, ast.arg, ast.Assign,
    ast.AugAssign, ast.For, ast.While, ast.If, ast.Return, ast.Break, ast.Continue, ast.Pass, ast.Raise, ast.Expr,
    ast.BinOp, ast.UnaryOp, ast.BoolOp, ast.Compare, ast.IfExp, ast.Call, ast.Attribute, ast.Subscript, ast.Slice,
    ast.Name, ast.Constant, ast.Tuple, ast.List, ast.Dict, ast.ListComp, ast.DictComp, ast.GeneratorExp,
    ast.comprehension, ast.Lambda, ast.keyword, ast.Starred, ast.JoinedStr, ast.FormattedValue, ast.operator,
    ast.unaryop, ast.boolop, ast.cmpop, ast.expr_context, ast.Try, ast.ExceptHandler, ast.Delete)
OWN_ERRORS = {"TermError", "MissingError", "StateError", "LimitError"}
KEYWORD_ONLY = {"supposed", "most"}
KEYWORDS = {"sorted": {"key"}, "max": {"default"}, "min": {"default"}}
AT_ONCE = {"zip", "enumerate", "reversed", "range"}


def parsed(path):
    return ast.parse(path.read_text(encoding="utf-8"))


def functions_of(tree):
    return [node for node in ast.walk(tree) if isinstance(node, ast.FunctionDef)]


def bound_names(tree):
    """All names that are bound in a file: parameters, targets, functions, classes."""
    for node in ast.walk(tree):
        if isinstance(node, ast.Name) and isinstance(node.ctx, ast.Store):
            yield node.id
        elif isinstance(node, ast.arg):
            yield node.arg
        elif isinstance(node, (ast.FunctionDef, ast.ClassDef)):
            yield node.name


def called_name(node):
    return node.func.id if isinstance(node, ast.Call) and isinstance(node.func, ast.Name) else None


class Files(unittest.TestCase):
    def test_folder(self):
        for path in PACKAGE.iterdir():
            if path.name != "__pycache__":
                self.assertTrue(path.suffix == ".py" and re.fullmatch("[a-z0-9_]+", path.stem), path)
        self.assertLessEqual(len(FILES), 100)

    def test_sizes_and_characters(self):
        for path in FILES:
            text = path.read_text(encoding="utf-8")
            lines = text.split("\n")
            self.assertLessEqual(len(lines), 400, path)
            self.assertTrue(all(len(line) <= 120 for line in lines), path)
            self.assertTrue(all(letter == "\n" or " " <= letter <= "~" for letter in text), path)
            for function in functions_of(parsed(path)):
                self.assertLessEqual(function.end_lineno - function.lineno + 1, 40, (path, function.name))

    def test_imports(self):
        needs = {}
        for path in FILES:
            tree, needs[path.stem] = parsed(path), []
            imported = []
            for node in tree.body:
                if isinstance(node, ast.ImportFrom):
                    self.assertEqual(node.level, 0)
                    self.assertTrue(all(alias.asname is None and alias.name != "*" for alias in node.names), path)
                    names = [alias.name for alias in node.names]
                    imported += names
                    if node.module in LIBRARY:
                        self.assertLessEqual(set(names), LIBRARY[node.module])
                        continue
                    package, _, file = node.module.partition(".")
                    self.assertEqual(package, "allreadings")
                    needs[path.stem].append(file)
                    other = parsed(PACKAGE / (file + ".py"))
                    own = {item.name for item in other.body if isinstance(item, (ast.FunctionDef, ast.ClassDef))}
                    own |= {target.id for item in other.body if isinstance(item, ast.Assign) for target in item.targets}
                    self.assertLessEqual(set(names), own, path)
            used = [node.id for node in ast.walk(tree) if isinstance(node, ast.Name)]
            self.assertEqual(len(set(imported)), len(imported), path)
            for name in imported:
                self.assertIn(name, used, path)
        ahead = set()
        while len(ahead) < len(needs):
            ready = [file for file in needs if file not in ahead and set(needs[file]) <= ahead]
            self.assertTrue(ready, "files import one another: " + str(sorted(set(needs) - ahead)))
            ahead |= set(ready)

    def test_module_level(self):
        for path in FILES:
            names = []
            for place, node in enumerate(parsed(path).body):
                if isinstance(node, ast.Expr):
                    self.assertTrue(place == 0 and isinstance(node.value, ast.Constant), path)
                elif isinstance(node, ast.Assign):
                    self.assertEqual(len(node.targets), 1)
                    self.assertIsInstance(node.targets[0], ast.Name)
                    if isinstance(node.value, ast.Dict) and all(isinstance(part, ast.Name) for part in node.value.values):
                        # A table of functions that are defined above it.
                        self.assertLessEqual({part.id for part in node.value.values}, set(names), path)
                    else:
                        worth = ast.literal_eval(node.value)
                        self.assertIsInstance(worth, (int, str, tuple, dict))
                        if isinstance(worth, dict):
                            hash(tuple(worth.items()))
                    names.append(node.targets[0].id)
                elif isinstance(node, (ast.FunctionDef, ast.ClassDef)):
                    names.append(node.name)
                else:
                    self.assertIsInstance(node, ast.ImportFrom)
                    names += [alias.name for alias in node.names]
            self.assertEqual(len(set(names)), len(names), path)


class Words(unittest.TestCase):
    def test_nodes(self):
        for path in FILES:
            for node in ast.walk(parsed(path)):
                self.assertIsInstance(node, NODES, (path, getattr(node, "lineno", 0)))
                if isinstance(node, ast.BinOp):
                    self.assertNotIsInstance(node.op, (ast.Div, ast.MatMult), path)
                    if isinstance(node.op, ast.Pow):
                        self.assertIn(ast.literal_eval(node.right), range(65), path)
                if isinstance(node, ast.Constant):
                    self.assertNotIsInstance(node.value, (float, complex, bytes, type(...)), path)
                if isinstance(node, ast.Compare):
                    for sign, other in zip(node.ops, node.comparators):
                        if isinstance(sign, (ast.Is, ast.IsNot)):
                            self.assertTrue(isinstance(other, ast.Constant), (path, node.lineno))

    def test_names(self):
        for path in FILES:
            tree = parsed(path)
            imported = {alias.name for node in tree.body if isinstance(node, ast.ImportFrom) for alias in node.names}
            classes = {node.name for node in tree.body if isinstance(node, ast.ClassDef)}
            own = set(bound_names(tree))
            self.assertFalse(own & BUILTINS, path)
            self.assertFalse(own & imported, path)
            self.assertFalse(own & NEVER, path)
            for function in functions_of(tree):
                self.assertFalse({name for part in function.body for name in bound_names(part)} & classes, path)
            methods = {node.name for top in tree.body if isinstance(top, ast.ClassDef)
                       for node in top.body if isinstance(node, ast.FunctionDef)}
            for name in own:
                self.assertTrue(re.fullmatch("_?[A-Za-z][A-Za-z0-9_]*|_", name) or name == "__init__", (path, name))
                self.assertFalse(name.startswith(("_wall", "_pe_", "_dcw_", "_enum_", "_cm_", "_lay_", "_law_")), path)
            self.assertFalse({name for name in methods if name.startswith("__")} - {"__init__"}, path)
            for node in ast.walk(tree):
                if isinstance(node, ast.Name) and isinstance(node.ctx, ast.Load):
                    self.assertNotEqual(node.id, "_", path)
                    if node.id in BUILTINS and node.id not in ("property", "staticmethod"):
                        self.assertIn(node.id, ALLOWED_BUILTINS, (path, node.lineno))

    def test_strings(self):
        for path in FILES:
            with open(path, "rb") as file:
                for token in tokenize.tokenize(file.readline):
                    if token.type == tokenize.STRING:
                        self.assertNotIn("%", token.string, path)
                        self.assertFalse(re.search(r"\\[^n'\"\\]", token.string), (path, token.string))
            text = path.read_text(encoding="utf-8")
            for word in NOT_IN_STRINGS:
                self.assertFalse(re.search(r"\b" + word + r"\b", text), (path, word))

    def test_functions_and_classes(self):
        for path in FILES:
            tree = parsed(path)
            for node in ast.walk(tree):
                if isinstance(node, ast.ClassDef):
                    self.assertEqual(node.decorator_list, [], path)
                if isinstance(node, ast.FunctionDef) and node.decorator_list:
                    self.assertTrue(any(node in top.body for top in tree.body if isinstance(top, ast.ClassDef)), path)
                    if [part.id for part in node.decorator_list] == ["staticmethod"]:
                        self.assertNotIn("self", [part.arg for part in node.args.args], path)
                        continue
                    # A property, which changes nothing: it is one return behind its docstring.
                    self.assertEqual([part.id for part in node.decorator_list], ["property"], path)
                    self.assertEqual([type(part) for part in node.body], [ast.Expr, ast.Return], path)
                    self.assertEqual([part.arg for part in node.args.args], ["self"], path)
                if isinstance(node, ast.ClassDef):
                    self.assertIn(node, tree.body)
                    for part in node.body:
                        self.assertTrue(isinstance(part, ast.FunctionDef) or isinstance(part.value, ast.Constant), path)
                    attributes = {part.attr for part in ast.walk(node) if isinstance(part, ast.Attribute)
                                  and isinstance(part.ctx, ast.Store)}
                    methods = {part.name for part in node.body if isinstance(part, ast.FunctionDef)}
                    self.assertFalse(attributes & methods, (path, node.name))
                    self.assertFalse(attributes & (CHANGING | {"items", "keys", "values", "args", "format"}), path)
                if isinstance(node, ast.Raise):
                    self.assertTrue(called_name(node.exc), (path, node.lineno))


class Errors(unittest.TestCase):
    def test_only_own_errors_are_caught(self):
        for path in FILES:
            for node in ast.walk(parsed(path)):
                if isinstance(node, ast.Try):
                    self.assertEqual((node.orelse, node.finalbody), ([], []), path)
                if isinstance(node, ast.ExceptHandler):
                    self.assertIsNone(node.name, path)
                    caught = node.type.elts if isinstance(node.type, ast.Tuple) else [node.type]
                    self.assertLessEqual({part.id for part in caught}, OWN_ERRORS, path)

    def test_only_items_are_deleted(self):
        for path in FILES:
            for node in ast.walk(parsed(path)):
                if isinstance(node, ast.Delete):
                    self.assertTrue(all(isinstance(part, ast.Subscript) for part in node.targets), path)

    def test_no_attribute_has_the_name_of_a_property(self):
        properties, stored = set(), set()
        for path in FILES:
            for node in ast.walk(parsed(path)):
                if isinstance(node, ast.FunctionDef) and "property" in [part.id for part in node.decorator_list]:
                    properties.add(node.name)
                if isinstance(node, ast.Attribute) and isinstance(node.ctx, ast.Store):
                    stored.add(node.attr)
        self.assertFalse(properties & stored)


class Calls(unittest.TestCase):
    def setUp(self):
        self.own = {}
        for path in FILES:
            for node in ast.walk(parsed(path)):
                if isinstance(node, ast.FunctionDef):
                    self.own.setdefault(node.name, []).append(node)

    def test_methods(self):
        attributes = {node.attr for path in FILES for node in ast.walk(parsed(path))
                      if isinstance(node, ast.Attribute) and isinstance(node.ctx, ast.Store)}
        attributes |= {name for name, nodes in self.own.items() if any(node.decorator_list for node in nodes)}
        for path in FILES:
            tree = parsed(path)
            called = {id(node.func) for node in ast.walk(tree) if isinstance(node, ast.Call)}
            for node in ast.walk(tree):
                if isinstance(node, ast.Attribute):
                    if id(node) in called:
                        self.assertTrue(node.attr in METHODS or node.attr in self.own, (path, node.attr))
                    else:
                        self.assertIn(node.attr, attributes, (path, node.lineno))

    def test_iterated_at_once(self):
        good = {"list", "tuple", "dict", "sorted", "sum", "any", "all", "enumerate", "zip"}
        for path in FILES:
            tree = parsed(path)
            fine = set()
            for node in ast.walk(tree):
                if isinstance(node, (ast.For, ast.comprehension)):
                    fine.add(id(node.iter))
                if called_name(node) in good:
                    fine |= {id(part) for part in node.args}
                if called_name(node) == "reversed" and called_name(node.args[0]) == "range":
                    fine.add(id(node.args[0]))
            for node in ast.walk(tree):
                views = isinstance(node, ast.Call) and isinstance(node.func, ast.Attribute) and (
                    node.func.attr in ("items", "keys", "values"))
                if called_name(node) in AT_ONCE or views or called_name(node) in LIBRARY["itertools"]:
                    self.assertIn(id(node), fine, (path, node.lineno))

    def test_stars_keywords_and_lambdas(self):
        for path in FILES:
            tree = parsed(path)
            keys = set()
            for node in ast.walk(tree):
                if isinstance(node, ast.Call):
                    for part in node.args:
                        self.assertTrue(not isinstance(part, ast.Starred) or called_name(node) == "zip", path)
                    for word in node.keywords:
                        if called_name(node) in self.own:
                            self.assertIn(word.arg, KEYWORD_ONLY, (path, node.lineno))
                        else:
                            self.assertIn(word.arg, KEYWORDS.get(called_name(node), ()), (path, node.lineno))
                        keys.add(id(word.value))
                    if called_name(node) in self.own:
                        keys |= {id(part) for part in node.args}
            for node in ast.walk(tree):
                if isinstance(node, ast.Lambda):
                    self.assertIn(id(node), keys, path)

    def test_generators_stand_in_any_and_all(self):
        for path in FILES:
            tree = parsed(path)
            fine = {id(node.args[0]) for node in ast.walk(tree) if called_name(node) in ("any", "all") and node.args}
            for node in ast.walk(tree):
                if isinstance(node, ast.GeneratorExp):
                    self.assertIn(id(node), fine, (path, node.lineno))

    def test_numbers_of_arguments(self):
        for path in FILES:
            tree = parsed(path)
            here = {node.name: node for node in tree.body if isinstance(node, ast.FunctionDef)}
            for node in tree.body:
                if isinstance(node, ast.ImportFrom) and node.module.startswith("allreadings."):
                    other = parsed(PACKAGE / (node.module.split(".")[1] + ".py"))
                    there = {part.name: part for part in other.body if isinstance(part, ast.FunctionDef)}
                    here.update({alias.name: there[alias.name] for alias in node.names if alias.name in there})
            for node in ast.walk(tree):
                name = called_name(node)
                if name in here:
                    told = here[name].args
                    self.assertEqual(len(node.args), len(told.args), (path, node.lineno))
                    by_name = {word.arg for word in node.keywords}
                    self.assertLessEqual(by_name, {part.arg for part in told.kwonlyargs}, (path, node.lineno))

    def test_loops_do_not_change_what_they_go_over(self):
        for path in FILES:
            for loop in ast.walk(parsed(path)):
                if not isinstance(loop, ast.For):
                    continue
                over = {ast.dump(part) for part in ast.walk(loop.iter) if isinstance(part, (ast.Name, ast.Attribute))}
                for node in (part for row in loop.body for part in ast.walk(row)):
                    if isinstance(node, ast.Call) and isinstance(node.func, ast.Attribute):
                        if node.func.attr in CHANGING:
                            self.assertNotIn(ast.dump(node.func.value), over, (path, node.lineno))
                    if isinstance(node, ast.Subscript) and isinstance(node.ctx, (ast.Store, ast.Del)):
                        changed = ast.dump(node.value)
                        self.assertNotIn(changed, over, (path, node.lineno))


if __name__ == "__main__":
    unittest.main()
