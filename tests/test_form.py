"""Holds the package's files to the part of Python that the program keeps to, as far as it shows in their form."""

import ast
import builtins
import pathlib
import re
import unittest

PACKAGE = pathlib.Path(__file__).resolve().parent.parent / "allparts"

NODES = """Module FunctionDef ClassDef arguments arg ImportFrom alias Expr Assign AugAssign If While For Return Break
Continue Pass Raise Try ExceptHandler Constant List Tuple Dict Set Name Attribute Subscript Slice Call keyword BinOp
UnaryOp BoolOp Compare IfExp ListComp comprehension JoinedStr FormattedValue Lambda Load Store Add Sub Mult FloorDiv Mod
Pow BitAnd BitOr BitXor LShift RShift Invert USub UAdd Not And Or Eq NotEq Lt LtE Gt GtE Is IsNot In NotIn""".split()

PYTHONS_OWN = """len range enumerate zip min max sum abs sorted reversed int str bool list tuple dict set frozenset isinstance
ord repr any all divmod Exception ValueError TypeError KeyError IndexError LookupError ZeroDivisionError ArithmeticError
OverflowError RuntimeError NotImplementedError AttributeError StopIteration""".split()

METHODS = """append clear copy count endswith extend find get index insert isalnum isalpha isdigit islower isspace isupper
items join keys ljust lower lstrip partition pop remove replace reverse rfind rjust rpartition rsplit rstrip setdefault
split splitlines startswith strip update upper values zfill bit_length __init__""".split()

WORDS = """type typing typing_extensions enum Enum IntEnum StrEnum Flag IntFlag Generic Protocol ABC ABCMeta namedtuple
NamedTuple TypedDict TYPE_CHECKING abstractmethod""".split()

NOT_USED = """register mro elements open input version_info with_traceback add_note attrgetter breakpoint builtins compile
copyright credits delattr dir eval exec exit gc getattr globals hasattr help id importlib license locals methodcaller os quit
setattr super type vars sys chr format format_map sort args encode""".split()

KEYWORDS = {"sorted": ("key", "reverse"), "min": ("key", "default"), "max": ("key", "default"), "sum": ("start",),
            "enumerate": ("start",), "zip": ("strict",)}

WALKING = ("list", "tuple", "dict", "sorted", "sum", "any", "all", "enumerate", "zip", "min", "max", "join")

CHANGING = ("append", "clear", "extend", "insert", "pop", "remove", "reverse", "setdefault", "update")

WALKED = ("zip", "enumerate", "reversed", "range", "items", "keys", "values")


def called(node):
    """The name that a call calls, or None."""
    if not isinstance(node, ast.Call):
        return None
    return node.func.id if isinstance(node.func, ast.Name) else getattr(node.func, "attr", None)


class Form(unittest.TestCase):
    def setUp(self):
        self.files = sorted(path for path in PACKAGE.iterdir() if path.name != "__pycache__")
        self.trees = {path: ast.parse(path.read_text("utf-8")) for path in self.files}

    def nodes(self):
        return [(f"{path.name}:{getattr(node, 'lineno', 0)}", node)
                for path, tree in self.trees.items() for node in ast.walk(tree)]

    def methods(self):
        return [item.name for where, node in self.nodes() if isinstance(node, ast.ClassDef) for item in node.body
                if isinstance(item, ast.FunctionDef)]

    def test_files(self):
        self.assertIn(PACKAGE / "__init__.py", self.files)
        for path in self.files:
            self.assertTrue(path.is_file() and re.fullmatch(r"[a-z0-9_]+\.py", path.name), path)
            if path.stem not in ("__init__", "__main__"):
                self.assertFalse(hasattr(builtins, path.stem) or path.stem in WORDS, path)
            self.assertFalse(re.match(r"test|site|conftest|sitecustomize|usercustomize", path.stem), path)

    def test_signs_and_sizes(self):
        for path in self.files:
            text = path.read_text("utf-8")
            self.assertRegex(text, r"\A[ -~\n]*\Z", path)
            self.assertLessEqual(len(text.splitlines()), 400, path)
            self.assertLessEqual(max(len(line) for line in text.splitlines()), 120, path)
        for where, node in self.nodes():
            if isinstance(node, ast.FunctionDef):
                self.assertLessEqual(node.end_lineno - node.lineno + 1, 40, where)

    def test_words_that_stand_nowhere(self):
        for path in self.files:
            text = path.read_text("utf-8")
            self.assertEqual([word for word in re.findall(r"\w+", text) if word in WORDS], [], path)
            self.assertNotRegex(text, r"dataclass|overload|contextmanager", path)

    def test_nodes(self):
        for where, node in self.nodes():
            self.assertIn(node.__class__.__name__, NODES, where)
            if isinstance(node, ast.Assign):
                self.assertEqual(len(node.targets), 1, where)
            if isinstance(node, (ast.FunctionDef, ast.ClassDef)):
                self.assertEqual(node.decorator_list, [], where)
            if isinstance(node, ast.arguments):
                self.assertEqual((node.vararg, node.kwarg, node.kwonlyargs, node.posonlyargs), (None, None, [], []), where)
            if isinstance(node, (ast.For, ast.While)):
                self.assertEqual(node.orelse, [], where)
            if isinstance(node, ast.comprehension):
                self.assertLessEqual(len(node.ifs), 1, where)
            if isinstance(node, ast.ListComp):
                self.assertEqual(len(node.generators), 1, where)
            if isinstance(node, ast.Constant):
                self.assertIn(node.value.__class__.__name__, ("int", "str", "bool", "NoneType"), where)
            if isinstance(node, ast.Compare) and any(isinstance(op, (ast.Is, ast.IsNot)) for op in node.ops):
                self.assertTrue(all(isinstance(side, ast.Constant) for side in node.comparators), where)

    def test_tops(self):
        for path, tree in self.trees.items():
            self.assertIsNotNone(ast.get_docstring(tree), path)
            bound = []
            for node in tree.body[1:]:
                self.assertIsInstance(node, (ast.ImportFrom, ast.FunctionDef, ast.ClassDef, ast.Assign), path)
                if isinstance(node, ast.Assign):
                    bound.append(node.targets[0].id)
                elif isinstance(node, ast.ImportFrom):
                    bound.extend(alias.name for alias in node.names)
                else:
                    bound.append(node.name)
            self.assertEqual(len(bound), len(set(bound)), path)

    def held_plain(self, value, above, where):
        """Written numbers and texts and functions defined above, and tuples, lists and dicts of these."""
        if isinstance(value, ast.Name):
            self.assertIn(value.id, above, where)
        elif isinstance(value, (ast.Tuple, ast.List, ast.Dict)):
            within = value.keys + value.values if isinstance(value, ast.Dict) else value.elts
            for thing in within:
                self.held_plain(thing, above, where)
                self.assertFalse(not isinstance(value, ast.Tuple) and isinstance(thing, (ast.List, ast.Dict)), where)
        else:
            self.assertIsInstance(value, ast.Constant, where)

    def test_values_of_the_top(self):
        for path, tree in self.trees.items():
            above = []
            for node in tree.body:
                if isinstance(node, ast.FunctionDef):
                    above.append(node.name)
                if isinstance(node, ast.Assign):
                    self.held_plain(node.value, above, f"{path.name}:{node.lineno}")

    def test_lists_and_dicts_of_the_top_are_only_read(self):
        for path, tree in self.trees.items():
            kept = [node.targets[0].id for node in tree.body
                    if isinstance(node, ast.Assign) and isinstance(node.value, (ast.List, ast.Dict))]
            for node in ast.walk(tree):
                for child in ast.iter_child_nodes(node):
                    if isinstance(child, ast.Name) and child.id in kept and isinstance(child.ctx, ast.Load):
                        where = f"{path.name}:{child.lineno}"
                        self.assertIsInstance(node, (ast.Subscript, ast.Compare, ast.For, ast.comprehension), where)
                        self.assertIsInstance(getattr(node, "ctx", ast.Load()), ast.Load, where)

    def test_methods_are_called_where_they_stand(self):
        own = self.methods()
        called_ones = [node.func for where, node in self.nodes() if isinstance(node, ast.Call)]
        for where, node in self.nodes():
            if isinstance(node, ast.Attribute) and node.attr in METHODS + own:
                self.assertIn(node, called_ones, where)

    def test_classes_are_called_or_asked_for(self):
        classes = [node.name for where, node in self.nodes() if isinstance(node, ast.ClassDef)]
        for where, node in self.nodes():
            for child in ast.iter_child_nodes(node):
                if isinstance(child, ast.Name) and child.id in classes:
                    base = isinstance(node, ast.Attribute) and node.attr == "__init__"
                    fits = base or isinstance(node, (ast.ClassDef, ast.ExceptHandler, ast.Raise))
                    fits = fits or isinstance(node, ast.Call) and (node.func is child or called(node) == "isinstance")
                    self.assertTrue(fits, where)

    def test_errors_are_made_on_the_spot_and_taken_by_name(self):
        free = [node.name for node in self.trees[PACKAGE / "errors.py"].body if isinstance(node, ast.ClassDef)]
        free += ["KeyError", "ZeroDivisionError", "StopIteration"]
        for where, node in self.nodes():
            if isinstance(node, ast.Raise):
                self.assertIsInstance(node.exc, ast.Call, where)
            if isinstance(node, ast.ExceptHandler):
                self.assertIn(ast.unparse(node.type), free, where)

    def test_what_things_are_held_to_be(self):
        for where, node in self.nodes():
            if called(node) == "isinstance":
                self.assertIn(ast.unparse(node.args[1]), ("int", "str", "bool", "list", "tuple", "dict"), where)

    def test_pythons_own_are_called(self):
        for where, node in self.nodes():
            for child in ast.iter_child_nodes(node):
                if isinstance(child, ast.Name) and child.id in PYTHONS_OWN:
                    at_call = isinstance(node, ast.Call) and (node.func is child or called(node) == "isinstance")
                    self.assertTrue(at_call or isinstance(node, (ast.keyword, ast.ClassDef)), where)

    def test_no_annotations(self):
        for where, node in self.nodes():
            self.assertIsNone(getattr(node, "annotation", None), where)
            self.assertIsNone(getattr(node, "returns", None), where)

    def test_what_stands_in_written_texts(self):
        for where, node in self.nodes():
            if isinstance(node, ast.FormattedValue):
                self.assertIsInstance(node.value, ast.Name, where)
                self.assertIsNone(node.format_spec, where)
        for path in self.files:
            self.assertNotRegex(path.read_text("utf-8"), r"\\[^nt\\'\"]", path)

    def test_imports(self):
        for where, node in self.nodes():
            if isinstance(node, ast.ImportFrom):
                self.assertEqual(node.level, 0, where)
                self.assertRegex(node.module, r"\Aallparts\.\w+\Z", where)
                tree = self.trees[PACKAGE / (node.module.split(".")[1] + ".py")]
                own = [top.name for top in tree.body if isinstance(top, (ast.FunctionDef, ast.ClassDef))]
                own += [top.targets[0].id for top in tree.body if isinstance(top, ast.Assign)]
                for alias in node.names:
                    self.assertIn(alias.name, own, where)

    def test_no_two_files_draw_from_one_another(self):
        draws = {path.stem: [node.module.split(".")[1] for node in tree.body if isinstance(node, ast.ImportFrom)]
                 for path, tree in self.trees.items()}
        while draws:
            free = [name for name in draws if not [other for other in draws[name] if other in draws]]
            self.assertNotEqual(free, [], draws)
            draws = {name: others for name, others in draws.items() if name not in free}

    def test_names(self):
        for where, node in self.nodes():
            if isinstance(node, ast.Name):
                self.assertRegex(node.id, r"\A[A-Za-z]\w*\Z", where)
                if hasattr(builtins, node.id):
                    self.assertIsInstance(node.ctx, ast.Load, where)
                    self.assertIn(node.id, PYTHONS_OWN, where)
            if isinstance(node, ast.arg):
                self.assertFalse(hasattr(builtins, node.arg) or node.arg.startswith("_"), where)
            if isinstance(node, ast.Attribute):
                pythons = any(hasattr(kind, node.attr) for kind in (str, int, list, tuple, dict, set, bytes))
                self.assertTrue(not pythons or node.attr in METHODS, where)

    def test_no_name_is_a_method_here_and_a_value_there(self):
        values = [node.attr for where, node in self.nodes()
                  if isinstance(node, ast.Attribute) and isinstance(node.ctx, ast.Store)]
        self.assertEqual(set(self.methods()) & set(values), set())

    def test_names_that_are_not_used(self):
        for where, node in self.nodes():
            for field in ("id", "attr", "name", "arg"):
                name = getattr(node, field, None)
                if isinstance(name, str):
                    self.assertNotIn(name, NOT_USED, where)
                    self.assertFalse(name.startswith("_") and name != "__init__", where)

    def test_no_local_is_called_like_a_class_or_an_import(self):
        for path, tree in self.trees.items():
            taken = [alias.name for node in tree.body if isinstance(node, ast.ImportFrom) for alias in node.names]
            taken += [node.name for node in tree.body if isinstance(node, ast.ClassDef)]
            for node in ast.walk(tree):
                if isinstance(node, ast.arg):
                    self.assertNotIn(node.arg, taken, path)
                if isinstance(node, ast.Name) and isinstance(node.ctx, ast.Store):
                    self.assertNotIn(node.id, taken, path)

    def test_every_import_is_used(self):
        for path, tree in self.trees.items():
            used = [node.id for node in ast.walk(tree) if isinstance(node, ast.Name)]
            for node in tree.body:
                if isinstance(node, ast.ImportFrom):
                    self.assertEqual([alias.name for alias in node.names if alias.name not in used], [], path)

    def test_keywords(self):
        for where, node in self.nodes():
            if isinstance(node, ast.Call):
                for keyword in node.keywords:
                    self.assertIn(keyword.arg, KEYWORDS.get(called(node), ()), where)
                    if keyword.arg in ("reverse", "strict"):
                        self.assertIsInstance(keyword.value, ast.Constant, where)

    def test_numbers_and_texts(self):
        for where, node in self.nodes():
            if isinstance(node, ast.Constant) and isinstance(node.value, str):
                self.assertNotIn("%", node.value, where)
            if isinstance(node, ast.BinOp) and isinstance(node.op, ast.Pow):
                self.assertIsInstance(node.right, ast.Constant, where)

    def placed(self):
        """Each call with the node that it stands straight in."""
        for where, node in self.nodes():
            for child in ast.iter_child_nodes(node):
                if isinstance(child, ast.Call):
                    yield where, child, node

    def test_walked_at_once(self):
        for where, call, around in self.placed():
            if called(call) in WALKED:
                if isinstance(around, (ast.For, ast.comprehension)):
                    self.assertIs(around.iter, call, where)
                else:
                    self.assertIn(called(around), WALKING, where)

    def test_sets_are_not_kept(self):
        for where, call, around in self.placed():
            if called(call) in ("set", "frozenset"):
                beside = isinstance(around, (ast.Compare, ast.BinOp))
                self.assertTrue(beside or called(around) in ("sorted", "len") and not around.keywords, where)

    def test_what_a_loop_walks_is_not_changed_in_it(self):
        for where, node in self.nodes():
            if isinstance(node, ast.For):
                walked = {ast.unparse(part) for part in ast.walk(node.iter) if isinstance(part, (ast.Name, ast.Attribute))}
                for inner in node.body:
                    for part in ast.walk(inner):
                        if isinstance(part, ast.Call) and called(part) in CHANGING and isinstance(part.func, ast.Attribute):
                            self.assertNotIn(ast.unparse(part.func.value), walked, where)
                        if isinstance(part, ast.Subscript) and isinstance(part.ctx, ast.Store):
                            self.assertNotIn(ast.unparse(part.value), walked, where)
