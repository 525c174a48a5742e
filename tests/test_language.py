"""A simple look at the package's files: do they keep to the part of Python agreed on?

The names L1 to L28 are those of ../shared/LANGUAGE.md. What needs more than a
simple look is left to the reader.
"""

import ast
import os
import re
import unittest

PACKAGE = os.path.join(os.path.dirname(os.path.dirname(os.path.abspath(__file__))), "lotcutter")

STATEMENTS = (
    ast.Module, ast.FunctionDef, ast.ClassDef, ast.Return, ast.Assign, ast.AugAssign, ast.For, ast.While,
    ast.If, ast.Raise, ast.Try, ast.ExceptHandler, ast.ImportFrom, ast.Expr, ast.Pass, ast.Break,
    ast.Continue, ast.alias, ast.arguments, ast.arg, ast.expr_context,
)
EXPRESSIONS = (
    ast.BoolOp, ast.BinOp, ast.UnaryOp, ast.Lambda, ast.IfExp, ast.Dict, ast.Set, ast.ListComp,
    ast.comprehension, ast.Compare, ast.Call, ast.keyword, ast.Constant, ast.JoinedStr,
    ast.FormattedValue, ast.Attribute, ast.Subscript, ast.Slice, ast.Name, ast.List, ast.Tuple,
    ast.boolop, ast.unaryop, ast.cmpop, ast.Add, ast.Sub, ast.Mult, ast.FloorDiv, ast.Mod, ast.Pow,
    ast.LShift, ast.RShift, ast.BitOr, ast.BitXor, ast.BitAnd,
)
OWN_NAMES_OF_PYTHON = """
    len range enumerate zip min max sum abs sorted reversed int str bool list tuple dict set frozenset
    isinstance ord repr any all divmod Exception ValueError TypeError KeyError IndexError LookupError
    ZeroDivisionError ArithmeticError OverflowError RuntimeError NotImplementedError AttributeError
    StopIteration
""".split()
METHODS_OF_PYTHON = """
    append clear copy count endswith extend find get index insert isalnum isalpha isdigit islower
    isspace isupper items join keys ljust lower lstrip partition pop remove replace reverse rfind rjust
    rpartition rsplit rstrip setdefault split splitlines startswith strip update upper values zfill
    bit_length
""".split()
WORDS_NOWHERE = """
    type typing typing_extensions enum Enum IntEnum StrEnum Flag IntFlag Generic Protocol ABC ABCMeta
    namedtuple NamedTuple TypedDict TYPE_CHECKING abstractmethod
""".split()
PARTS_NOWHERE = ["dataclass", "overload", "contextmanager"]
NAMES_NOWHERE = """
    register mro elements open input version_info with_traceback add_note attrgetter breakpoint builtins
    compile copyright credits delattr dir eval exec exit gc getattr globals hasattr help id importlib
    license locals methodcaller os quit setattr super type vars sys hash next map filter object print
""".split()


def sources():
    """Each file of the package: its name and its text."""
    found = []
    for name in sorted(os.listdir(PACKAGE)):
        if name != "__pycache__":
            with open(os.path.join(PACKAGE, name), encoding="utf-8", newline="") as file:
                found.append((name, file.read()))
    return found


def trees():
    return [(name, ast.parse(text)) for name, text in sources()]


def nodes(kinds):
    """Each node of these kinds in the package, with its file's name."""
    return [(name, node) for name, tree in trees() for node in ast.walk(tree) if isinstance(node, kinds)]


def places(found):
    return [f"{name}:{getattr(node, 'lineno', 0)}" for name, node in found]


def bound_names(tree):
    """Every name that the file gives to something."""
    names = []
    for node in ast.walk(tree):
        if isinstance(node, (ast.FunctionDef, ast.ClassDef)):
            names.append(node.name)
        elif isinstance(node, ast.arg):
            names.append(node.arg)
        elif isinstance(node, ast.alias):
            names.append(node.asname or node.name)
        elif isinstance(node, ast.Name) and isinstance(node.ctx, ast.Store):
            names.append(node.id)
        elif isinstance(node, ast.ExceptHandler) and node.name:
            names.append(node.name)
    return names


def top_names(tree):
    """The names that are bound at a file's top, each as often as it is bound."""
    names = []
    for node in tree.body:
        if isinstance(node, (ast.FunctionDef, ast.ClassDef)):
            names.append(node.name)
        elif isinstance(node, ast.ImportFrom):
            names.extend(alias.name for alias in node.names)
        elif isinstance(node, ast.Assign):
            names.extend(target.id for target in node.targets)
    return names


class Files(unittest.TestCase):
    def test_files_have_plain_names(self):
        # L1, L14
        for name, _ in sources():
            self.assertRegex(name, r"^(__init__|[a-z][a-z0-9_]*)\.py$")
            self.assertNotRegex(name, r"^(tests?|testing|test_.*|site|conftest)\.py$")
        self.assertIn("__init__.py", [name for name, _ in sources()])

    def test_sizes(self):
        # L10
        for name, text in sources():
            self.assertLessEqual(len(text.splitlines()), 399, name)
            self.assertEqual([line for line in text.splitlines() if len(line) > 120], [], name)
        long = [(name, node) for name, node in nodes(ast.FunctionDef) if node.end_lineno - node.lineno >= 40]
        self.assertEqual(places(long), [])

    def test_signs(self):
        # L14
        for name, text in sources():
            self.assertEqual(re.findall(r"[^ -~\n]", text), [], name)

    def test_words_that_stand_nowhere(self):
        # L17
        for name, text in sources():
            words = re.findall(r"\w+", text)
            self.assertEqual([word for word in words if word in WORDS_NOWHERE], [], name)
            self.assertEqual([part for part in PARTS_NOWHERE if part in text], [], name)


class Imports(unittest.TestCase):
    def test_own_modules_alone_from_where_they_are_defined(self):
        # L2, L16
        tops = {f"lotcutter.{name[:-3]}": tree for name, tree in trees()}
        for name, node in nodes((ast.Import, ast.ImportFrom)):
            self.assertIsInstance(node, ast.ImportFrom, name)
            self.assertEqual(node.level, 0, name)
            self.assertIn(node.module, tops, name)
            own = [
                bound for top in tops[node.module].body if not isinstance(top, ast.ImportFrom)
                for bound in top_names(ast.Module([top], []))
            ]
            for alias in node.names:
                self.assertIn(alias.name, own, name)
                self.assertIsNone(alias.asname, name)

    def test_no_two_files_draw_from_one_another(self):
        # L16
        drawn = {f"lotcutter.{name[:-3]}": set() for name, _ in trees()}
        for name, node in nodes(ast.ImportFrom):
            drawn[f"lotcutter.{name[:-3]}"].add(node.module)
        while drawn:
            free = [name for name in drawn if not drawn[name] & set(drawn)]
            self.assertNotEqual(free, [], f"a circle among {sorted(drawn)}")
            for name in free:
                drawn.pop(name)

    def test_the_interface_is_written_where_its_name_tells(self):
        # L16
        found = [
            (name, node) for name, tree in trees() for node in tree.body
            if isinstance(node, (ast.FunctionDef, ast.ClassDef)) and node.name == "answers"
        ]
        self.assertEqual([name for name, _ in found], ["desk.py"])
        self.assertEqual(ast.unparse(found[0][1].args), "calls")


class Forms(unittest.TestCase):
    def test_statements_and_expressions(self):
        # L6, L7
        self.assertEqual(places(
            [(name, node) for name, node in nodes(ast.AST) if not isinstance(node, STATEMENTS + EXPRESSIONS)]
        ), [])

    def test_the_top_of_a_file(self):
        # L3
        for name, tree in trees():
            kinds = (ast.ImportFrom, ast.FunctionDef, ast.ClassDef, ast.Assign)
            self.assertIsNotNone(ast.get_docstring(tree), name)
            others = [(name, node) for node in tree.body[1:] if not isinstance(node, kinds)]
            self.assertEqual(places(others), [])

    def test_plain_functions_and_classes(self):
        # L4, L5, L21
        for name, node in nodes(ast.FunctionDef):
            self.assertEqual(node.decorator_list, [], name)
            self.assertIsNone(node.args.vararg or node.args.kwarg or node.returns, name)
            self.assertEqual(node.args.kwonlyargs + node.args.posonlyargs, [], name)
            self.assertEqual([arg.arg for arg in node.args.args if arg.annotation], [], name)
        for name, node in nodes(ast.ClassDef):
            self.assertEqual(node.decorator_list + node.keywords, [], name)
            self.assertLessEqual(len(node.bases), 1, name)
            self.assertEqual([part for part in node.body[1:] if not isinstance(part, ast.FunctionDef)], [], name)

    def test_one_target_and_no_else_behind_a_loop(self):
        # L6
        self.assertEqual(places([found for found in nodes(ast.Assign) if len(found[1].targets) > 1]), [])
        self.assertEqual(places([found for found in nodes((ast.For, ast.While)) if found[1].orelse]), [])
        self.assertEqual(places([found for found in nodes(ast.Try) if found[1].finalbody]), [])

    def test_plain_comprehensions(self):
        # L7
        for name, node in nodes(ast.ListComp):
            self.assertEqual(len(node.generators), 1, name)
            self.assertLessEqual(len(node.generators[0].ifs), 1, name)

    def test_plain_values(self):
        # L7, L27
        kinds = (int, str, bool, type(None))
        self.assertEqual(places([found for found in nodes(ast.Constant) if type(found[1].value) not in kinds]), [])
        powers = [found for found in nodes(ast.BinOp) if isinstance(found[1].op, ast.Pow)]
        self.assertEqual(places([found for found in powers if not isinstance(found[1].right, ast.Constant)]), [])

    def test_is_beside_none_true_and_false_alone(self):
        # L20
        for name, node in nodes(ast.Compare):
            for sign, right in zip(node.ops, node.comparators):
                if isinstance(sign, (ast.Is, ast.IsNot)):
                    self.assertIn(ast.unparse(right), ("None", "True", "False"), name)


class Names(unittest.TestCase):
    def test_names_of_pythons_own(self):
        # L8, L17
        for name, tree in trees():
            bound = bound_names(tree)
            self.assertEqual([word for word in bound if word in OWN_NAMES_OF_PYTHON + NAMES_NOWHERE], [], name)
            used = [node.id for node in ast.walk(tree) if isinstance(node, ast.Name)]
            self.assertEqual([word for word in used if word not in bound + OWN_NAMES_OF_PYTHON], [], name)

    def test_plain_names(self):
        # L12
        for name, tree in trees():
            plain = [word for word in bound_names(tree) if word != "__init__"]
            self.assertEqual([word for word in plain if not re.match(r"^[A-Za-z][A-Za-z0-9_]*$", word)], [], name)

    def test_methods_and_values(self):
        # L18, L25
        methods = [
            part.name for _, node in nodes(ast.ClassDef) for part in node.body if isinstance(part, ast.FunctionDef)
        ]
        stored = [node.attr for _, node in nodes(ast.Attribute) if isinstance(node.ctx, ast.Store)]
        self.assertEqual([word for word in methods if word in stored], [])
        known = methods + stored + METHODS_OF_PYTHON
        used = [node.attr for _, node in nodes(ast.Attribute)]
        self.assertEqual([word for word in used if word not in known or word in NAMES_NOWHERE], [])

    def test_each_name_once_at_a_files_top(self):
        # L15
        for name, tree in trees():
            names = top_names(tree)
            self.assertEqual(sorted(set(names)), sorted(names), name)

    def test_no_local_is_called_like_something_of_the_files_top(self):
        # L15
        for name, tree in trees():
            inner = [
                word for part in tree.body if isinstance(part, (ast.FunctionDef, ast.ClassDef))
                for child in ast.iter_child_nodes(part) for word in bound_names(child)
                if not isinstance(part, ast.ClassDef) or not isinstance(child, ast.FunctionDef) or word != child.name
            ]
            self.assertEqual([word for word in inner if word in top_names(tree)], [], name)


if __name__ == "__main__":
    unittest.main()
