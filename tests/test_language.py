"""The package's files keep to the rules of form that can be read off them."""

import ast
import builtins
import pathlib
import re
import unittest

PACKAGE = pathlib.Path(__file__).resolve().parent.parent / "foretell"

NODES = {
    "Module", "ImportFrom", "alias", "FunctionDef", "ClassDef", "arguments", "arg", "Lambda", "Return", "Assign",
    "AugAssign", "If", "While", "For", "Break", "Continue", "Pass", "Raise", "Try", "ExceptHandler", "Expr",
    "Constant", "Name", "Load", "Store", "List", "Tuple", "Dict", "Set", "BinOp", "UnaryOp", "BoolOp", "Compare",
    "IfExp", "Call", "keyword", "Attribute", "Subscript", "Slice", "ListComp", "comprehension", "JoinedStr",
    "FormattedValue", "Add", "Sub", "Mult", "FloorDiv", "Mod", "Pow", "BitAnd", "BitOr", "BitXor", "LShift",
    "RShift", "Invert", "USub", "UAdd", "Not", "And", "Or", "Eq", "NotEq", "Lt", "LtE", "Gt", "GtE", "Is",
    "IsNot", "In", "NotIn",
}
OWN_NAMES = set(
    "len range enumerate zip min max sum abs sorted reversed int str bool list tuple dict set frozenset isinstance "
    "ord repr any all divmod Exception ValueError TypeError KeyError IndexError LookupError ZeroDivisionError "
    "ArithmeticError OverflowError RuntimeError NotImplementedError AttributeError StopIteration".split()
)
OWN_METHODS = set(
    "append clear copy count endswith extend find get index insert isalnum isalpha isdigit islower isspace isupper "
    "items join keys ljust lower lstrip partition pop remove replace reverse rfind rjust rpartition rsplit rstrip "
    "setdefault split splitlines startswith strip update upper values zfill bit_length".split()
)
TWO_UNDERSCORES = {"__init__", "__eq__", "__repr__", "__str__", "__len__"}
BANNED = re.compile(
    r"\b(type|typing|typing_extensions|enum|Enum|IntEnum|StrEnum|Flag|IntFlag|Generic|Protocol|ABC|ABCMeta|"
    r"namedtuple|NamedTuple|TypedDict|TYPE_CHECKING|abstractmethod)\b|dataclass|overload|contextmanager"
)
UNUSED = set(
    "register mro elements open input version_info with_traceback add_note format format_map chr compile dir eval exec "
    "exit gc getattr globals hasattr help id license locals os quit setattr super sys vars".split()
)


def package_files():
    return sorted(path for path in PACKAGE.rglob("*") if "__pycache__" not in path.parts)


def trees():
    return {path.name: ast.parse(path.read_text()) for path in package_files()}


def walked():
    return [(f"{name}:{getattr(node, 'lineno', 0)}", node) for name, tree in trees().items() for node in ast.walk(tree)]


def bound_names(node):
    if isinstance(node, (ast.FunctionDef, ast.ClassDef)):
        return [node.name]
    if isinstance(node, ast.arg):
        return [node.arg]
    if isinstance(node, ast.Name):
        return [node.id]
    if isinstance(node, ast.Attribute):
        return [node.attr]
    if isinstance(node, ast.alias):
        return [node.name] + [node.asname] * (node.asname is not None)
    return []


def top_names(tree):
    names = {node.name for node in tree.body if isinstance(node, (ast.FunctionDef, ast.ClassDef))}
    return names | {node.targets[0].id for node in tree.body if isinstance(node, ast.Assign)}


def drawn_from(tree):
    return {node.module for node in tree.body if isinstance(node, ast.ImportFrom)}


class TestFiles(unittest.TestCase):
    def test_names(self):
        self.assertTrue(package_files())
        for path in package_files():
            self.assertRegex(path.name, r"^([a-z][a-z0-9_]*|__init__|__main__)\.py$")

    def test_signs_and_sizes(self):
        for path in package_files():
            text = path.read_bytes().decode("ascii")
            self.assertRegex(text, r"\A[ -~\n]*\Z", path.name)
            rows = text.split("\n")
            self.assertLessEqual(len(rows), 400, path.name)
            self.assertLessEqual(max(map(len, rows)), 120, path.name)

    def test_words_that_stand_nowhere(self):
        for path in package_files():
            self.assertIsNone(BANNED.search(path.read_text()), path.name)

    def test_length_of_functions(self):
        for where, node in walked():
            if isinstance(node, ast.FunctionDef):
                self.assertLessEqual(node.end_lineno - node.lineno + 1, 40, where)

    def test_top_of_each_file(self):
        for name, tree in trees().items():
            for node in tree.body[1:]:
                kinds = (ast.ImportFrom, ast.FunctionDef, ast.ClassDef, ast.Assign)
                self.assertIsInstance(node, kinds, f"{name}:{node.lineno}")
                if isinstance(node, ast.Assign):
                    ast.literal_eval(node.value)

    def test_imports(self):
        files = {f"foretell.{path.stem}" for path in package_files()}
        for where, node in walked():
            if isinstance(node, ast.ImportFrom):
                self.assertEqual((node.level, node.col_offset), (0, 0), where)
                self.assertIn(node.module, files, where)
                self.assertNotIn("*", [part.name for part in node.names], where)

    def test_each_name_is_drawn_from_the_file_that_defines_it(self):
        tops = {f"foretell.{name[:-3]}": top_names(tree) for name, tree in trees().items()}
        for where, node in walked():
            if isinstance(node, ast.ImportFrom):
                for part in node.names:
                    self.assertIn(part.name, tops[node.module], where)

    def test_no_two_files_draw_from_one_another(self):
        left = {f"foretell.{name[:-3]}": drawn_from(tree) for name, tree in trees().items()}
        while left:
            # Files that draw from none of those left can be taken away; in a ring there is none such.
            done = [name for name, drawn in left.items() if not drawn & set(left)]
            self.assertTrue(done, sorted(left))
            left = {name: drawn for name, drawn in left.items() if name not in done}

    def test_no_local_is_called_like_a_class_or_an_import(self):
        for name, tree in trees().items():
            taken = {part.name for node in tree.body if isinstance(node, ast.ImportFrom) for part in node.names}
            taken |= {node.name for node in tree.body if isinstance(node, ast.ClassDef)}
            for node in ast.walk(tree):
                if isinstance(node, ast.arg):
                    self.assertNotIn(node.arg, taken, f"{name}:{node.lineno}")
                if isinstance(node, ast.Name) and isinstance(node.ctx, ast.Store):
                    self.assertNotIn(node.id, taken, f"{name}:{node.lineno}")


class TestForms(unittest.TestCase):
    def test_statements_and_expressions(self):
        for where, node in walked():
            self.assertIn(node.__class__.__name__, NODES, where)
            if isinstance(node, ast.Constant):
                self.assertNotIsInstance(node.value, (float, complex, bytes), where)
            if isinstance(node, (ast.FunctionDef, ast.ClassDef)):
                self.assertEqual(node.decorator_list, [], where)
            if isinstance(node, (ast.For, ast.While)):
                self.assertEqual(node.orelse, [], where)
            if isinstance(node, ast.Assign):
                self.assertEqual(len(node.targets), 1, where)
            if isinstance(node, ast.arguments):
                self.assertFalse(node.vararg or node.kwarg or node.kwonlyargs or node.posonlyargs, where)

    def test_a_written_exponent(self):
        for where, node in walked():
            if isinstance(node, ast.BinOp) and isinstance(node.op, ast.Pow):
                self.assertIsInstance(node.right, ast.Constant, where)
                self.assertIn(node.right.value, range(65), where)

    def test_is_beside_none_and_truths_alone(self):
        for where, node in walked():
            if isinstance(node, ast.Compare) and isinstance(node.ops[0], (ast.Is, ast.IsNot)):
                self.assertIn(ast.unparse(node.comparators[0]), ("None", "True", "False"), where)

    def test_errors_are_taken_by_name_and_raised_on_the_spot(self):
        own = top_names(trees()["errors.py"])
        for where, node in walked():
            if isinstance(node, ast.ExceptHandler):
                taken = node.type.elts if isinstance(node.type, ast.Tuple) else [node.type]
                self.assertTrue(all(part.id in own | {"KeyError", "ZeroDivisionError"} for part in taken), where)
            if isinstance(node, ast.Raise):
                self.assertIsInstance(node.exc, ast.Call, where)
                self.assertIn(node.exc.func.id, own, where)

    def test_signs_that_stand_in_no_text(self):
        for where, node in walked():
            if isinstance(node, ast.Constant) and isinstance(node.value, str):
                self.assertNotIn("%", node.value, where)

    def test_names_that_are_not_used(self):
        for where, node in walked():
            for name in bound_names(node):
                self.assertNotIn(name, UNUSED, where)

    def test_plain_names(self):
        for where, node in walked():
            for name in bound_names(node):
                if name not in TWO_UNDERSCORES:
                    self.assertRegex(name, r"^[A-Za-z][A-Za-z0-9_]*$", where)

    def test_pythons_own_names(self):
        for where, node in walked():
            if isinstance(node, ast.Name) and hasattr(builtins, node.id):
                self.assertIn(node.id, OWN_NAMES, where)
                self.assertIsInstance(node.ctx, ast.Load, where)
            if isinstance(node, ast.arg):
                self.assertFalse(hasattr(builtins, node.arg), where)

    def test_methods(self):
        own = {node.name for where, node in walked() if isinstance(node, ast.FunctionDef)}
        for where, node in walked():
            if isinstance(node, ast.Call) and isinstance(node.func, ast.Attribute):
                self.assertIn(node.func.attr, OWN_METHODS | own, where)

    def test_no_name_is_a_method_and_a_value(self):
        methods, values = set(), set()
        for where, node in walked():
            if isinstance(node, ast.ClassDef):
                methods.update(part.name for part in node.body if isinstance(part, ast.FunctionDef))
            if isinstance(node, ast.Attribute) and isinstance(node.ctx, ast.Store):
                values.add(node.attr)
        self.assertEqual(methods & values, set())


if __name__ == "__main__":
    unittest.main()
