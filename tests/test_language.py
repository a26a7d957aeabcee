"""What a reader of the code alone can check of ../shared/LANGUAGE.md, rule by rule."""

import ast
import builtins
import pathlib
import re
import unittest

FOLDER = pathlib.Path(__file__).resolve().parent.parent / "lockstold"
FILES = sorted(path for path in FOLDER.rglob("*.py"))

STATEMENTS = (ast.Assign, ast.AugAssign, ast.If, ast.While, ast.For, ast.Return, ast.Break, ast.Continue, ast.Pass,
              ast.Raise, ast.Assert, ast.Delete, ast.Try, ast.Expr, ast.FunctionDef, ast.ClassDef, ast.ImportFrom)
BUILTINS = set("""len range enumerate zip min max sum abs sorted reversed int str bool list tuple dict set isinstance ord
    repr any all divmod ValueError LookupError KeyError""".split())
METHODS = set("""add append bit_length count discard endswith extend find get index insert isalpha isdigit items join keys pop replace setdefault
    partition split splitlines startswith strip values __init__""".split())
OWN_METHODS = set("do undo redo twin telling shop can_be tight rows_out may_tell _add".split())
WORDS = set("""type typing enum Enum Flag Generic Protocol ABC namedtuple dataclass overload contextmanager register mro
    elements open input law""".split())


def trees():
    for path in FILES:
        yield path.name, ast.parse(path.read_text(encoding="utf-8"))


def nodes(*kinds):
    for name, tree in trees():
        for node in ast.walk(tree):
            if isinstance(node, kinds):
                yield name, node


def with_parents(tree):
    for parent in ast.walk(tree):
        for child in ast.iter_child_nodes(parent):
            yield parent, child


def given_names(function):
    """Parameters and local variables of a function, those of comprehensions and lambdas in it too."""
    found = {own.arg for own in ast.walk(function) if isinstance(own, ast.arg)}
    return found | {own.id for own in ast.walk(function) if isinstance(own, ast.Name) and isinstance(own.ctx, ast.Store)}


def stored_sets(function):
    """The names to which function assigns a set."""
    for node in ast.walk(function):
        if isinstance(node, ast.Assign):
            own = node.value
            made = isinstance(own, ast.Call) and isinstance(own.func, ast.Name) and own.func.id == "set"
            if made or isinstance(own, (ast.SetComp, ast.Set)):
                yield from [target.id for target in node.targets]


def is_fit_use(parent, child):
    """Whether L24 lets a stored set stand there: in `in`, len, sorted, add, discard, or as a condition."""
    if isinstance(parent, ast.Assign):
        return child in parent.targets
    if isinstance(parent, ast.Compare):
        return isinstance(parent.ops[0], (ast.In, ast.NotIn)) and child in parent.comparators
    if isinstance(parent, ast.Call):
        return isinstance(parent.func, ast.Name) and parent.func.id in ("len", "sorted")
    return isinstance(parent, ast.Attribute) and parent.attr in ("add", "discard")


class LanguageTest(unittest.TestCase):

    def test_l1_l10_l14_files_and_sizes(self):
        for path in FOLDER.rglob("*"):
            if "__pycache__" not in path.parts:
                self.assertRegex(path.name, r"\A[a-z_][a-z0-9_]*\.py\Z")
        for path in FILES:
            text = path.read_text(encoding="utf-8")
            self.assertIsNone(re.search("[^ -~\n]", text), path.name)
            self.assertLessEqual(len(text.splitlines()), 399, path.name)
            self.assertLessEqual(max([len(line) for line in text.splitlines()]), 120, path.name)
        for name, node in nodes(ast.FunctionDef):
            self.assertLessEqual(node.end_lineno - node.lineno + 1, 40, (name, node.name))

    def test_l2_l16_imports_name_the_file_that_defines(self):
        defined = {}
        for name, tree in trees():
            own_names = {own.name for own in tree.body if isinstance(own, (ast.FunctionDef, ast.ClassDef))}
            given = [own.targets for own in tree.body if isinstance(own, ast.Assign)]
            defined["lockstold." + name[:-3]] = own_names | {one.id for targets in given for one in targets}
        for name, node in nodes(ast.Import, ast.ImportFrom):
            self.assertIsInstance(node, ast.ImportFrom, name)
            self.assertEqual(node.level, 0)
            for own in node.names:
                self.assertIn(own.name, defined[node.module], name)
                self.assertIsNone(own.asname)

    def test_l3_module_level(self):
        for name, tree in trees():
            self.assertIsNotNone(ast.get_docstring(tree), name)
            for node in tree.body[1:]:
                self.assertIsInstance(node, (ast.ImportFrom, ast.FunctionDef, ast.ClassDef, ast.Assign), name)
                if isinstance(node, ast.Assign):
                    self.check_plain(node, [own.name for own in tree.body if isinstance(own, ast.FunctionDef)
                                            and own.lineno < node.lineno], name)

    def check_plain(self, node, functions, name):
        """A plain value, or a dict of functions that are defined above it."""
        self.assertEqual([type(own) for own in node.targets], [ast.Name], name)
        values = node.value.values if isinstance(node.value, ast.Dict) else [node.value]
        for own in values:
            if isinstance(own, ast.Name):
                self.assertIn(own.id, functions, name)
            else:
                ast.literal_eval(own)
        self.assertFalse([own for own in ast.walk(node.value) if isinstance(own, (ast.List, ast.Dict)) and own is not node.value])

    def test_l3_what_is_called_from_a_table_has_a_name_first(self):
        for name, node in nodes(ast.Call):
            self.assertIsInstance(node.func, (ast.Name, ast.Attribute), (name, node.lineno))

    def test_l7_stars_stand_before_names(self):
        for name, node in nodes(ast.Call):
            for own in [own.value for own in node.args if isinstance(own, ast.Starred)]:
                self.assertIsInstance(own, ast.Name, (name, node.lineno))

    def test_l4_no_decorators_no_defaults(self):
        for name, node in nodes(ast.FunctionDef, ast.ClassDef):
            self.assertEqual(node.decorator_list, [], name)
        for name, node in nodes(ast.arguments):
            self.assertEqual((node.defaults, node.kw_defaults, node.vararg, node.kwarg), ([], [], None, None), name)

    def test_l6_statements(self):
        for name, node in nodes(ast.stmt):
            self.assertIsInstance(node, STATEMENTS, (name, node.lineno))

    def test_l7_values(self):
        for name, node in nodes(ast.Constant):
            self.assertFalse(isinstance(node.value, (float, complex)), name)
        self.assertEqual(list(nodes(ast.Div, ast.GeneratorExp, ast.Yield, ast.YieldFrom, ast.Await, ast.MatMult)), [])

    def test_l8_l15_names_of_builtins(self):
        # A doctest that was run before leaves its last value there as _, which is a fit name.
        every = set(vars(builtins)) - {"_"}
        for name, tree in trees():
            known = {own.name for own in tree.body if isinstance(own, (ast.FunctionDef, ast.ClassDef))}
            imported = {own.name for node in tree.body if isinstance(node, ast.ImportFrom) for own in node.names}
            self.assertFalse((known | imported) & every, name)
            for function in [own for own in ast.walk(tree) if isinstance(own, ast.FunctionDef)]:
                classes = {own.name for own in tree.body if isinstance(own, ast.ClassDef)}
                self.assertFalse(given_names(function) & (every | imported | classes), (name, function.name))
                used = {own.id for own in ast.walk(function) if isinstance(own, ast.Name)} & every
                self.assertTrue(used <= BUILTINS, (name, function.name, used))

    def test_l12_l17_words(self):
        for name, tree in trees():
            for node in ast.walk(tree):
                own = {getattr(node, key, None) for key in ("id", "arg", "attr", "name")}
                own = {word for word in own if isinstance(word, str)} - {"__init__", "__len__", "__eq__"}
                self.assertFalse(own & WORDS, name)
                self.assertFalse({word for word in own if word.startswith("__")}, name)

    def test_l19_raise_makes_its_error(self):
        for name, node in nodes(ast.Raise):
            self.assertIsInstance(node.exc, ast.Call, (name, node.lineno))

    def test_l20_is_with_none_alone(self):
        for name, node in nodes(ast.Compare):
            for sign, right in zip(node.ops, node.comparators):
                if isinstance(sign, (ast.Is, ast.IsNot)):
                    self.assertIsInstance(right, ast.Constant, (name, node.lineno))
                    self.assertIn(right.value, (None, True, False))

    def test_l12_what_is_called_nothing_is_not_read(self):
        for name, node in nodes(ast.Name):
            if node.id == "_":
                self.assertIsInstance(node.ctx, ast.Store, (name, node.lineno))

    def test_l24_sets_are_not_iterated(self):
        for name, tree in trees():
            for parent, child in with_parents(tree):
                made = isinstance(child, ast.Call) and isinstance(child.func, ast.Name) and child.func.id == "set"
                if made or isinstance(child, (ast.SetComp, ast.Set)):
                    if isinstance(parent, ast.Assign):
                        continue
                    if isinstance(parent, ast.BinOp):
                        self.assertIsInstance(parent.op, (ast.BitXor, ast.BitAnd, ast.BitOr, ast.Sub))
                        continue
                    self.assertIsInstance(parent, ast.Call, (name, child.lineno))
                    self.assertIn(parent.func.id, ("sorted", "len"), (name, child.lineno))

    def test_l24_stored_sets(self):
        many = 0
        for name, function in nodes(ast.FunctionDef):
            for target in stored_sets(function):
                many += 1
                uses = [(parent, child) for parent, child in with_parents(function)
                        if isinstance(child, ast.Name) and child.id == target]
                self.assertEqual([type(child.ctx) for _, child in uses].count(ast.Store), 1, (name, target))
                for parent, child in uses:
                    self.assertTrue(is_fit_use(parent, child), (name, target, child.lineno))
        self.assertGreater(many, 0)

    def test_l25_methods(self):
        for name, node in nodes(ast.Call):
            if isinstance(node.func, ast.Attribute):
                self.assertIn(node.func.attr, METHODS | OWN_METHODS, (name, node.lineno))

    def test_l18_l26_no_method_is_an_attribute(self):
        methods = {node.name for _, tree in trees() for own in tree.body if isinstance(own, ast.ClassDef) for node in own.body
                   if isinstance(node, ast.FunctionDef)}
        self.assertTrue(OWN_METHODS <= methods)
        self.assertFalse(OWN_METHODS & METHODS)
        for name, node in nodes(ast.Attribute):
            if isinstance(node.ctx, ast.Store):
                self.assertNotIn(node.attr, methods, (name, node.lineno))

    def test_l19_what_is_caught(self):
        errors = {node.name for name, tree in trees() if name == "errors.py" for node in tree.body if isinstance(node, ast.ClassDef)}
        for name, node in nodes(ast.ExceptHandler):
            self.assertIn(node.type.id, errors, (name, node.lineno))
            self.assertIsNone(node.name)

    def test_l28_double_underscore_methods(self):
        found = {(name, node.name): node for name, node in nodes(ast.FunctionDef) if node.name.startswith("__")}
        for (name, own), node in found.items():
            if own != "__init__":
                self.assertEqual([type(each) for each in node.body], [ast.Return], (name, own))
        length, alike = found["yard.py", "__len__"].body[0].value, found["yard.py", "__eq__"].body[0].value
        self.assertEqual(length.func.id, "len")
        self.assertTrue(ast.unparse(alike).startswith("isinstance(other, Yard) and "))

    def test_l27_strings(self):
        for name, node in nodes(ast.Constant):
            if isinstance(node.value, str):
                self.assertNotIn(chr(37), node.value, (name, node.lineno))


if __name__ == "__main__":
    unittest.main()
