"""../shared/LANGUAGE.md: rules of the form that can be seen in the syntax trees of the package's files."""

import ast
import builtins
import pathlib
import re
import unittest

FOLDER = pathlib.Path(__file__).resolve().parent.parent / "openlanes"

BUILTINS = set(
    "len range enumerate zip min max sum abs sorted reversed int str bool bytes list tuple dict set isinstance ord "
    "repr any all divmod ValueError property classmethod staticmethod".split()
)
NODES = (
    ast.Module, ast.ImportFrom, ast.alias, ast.FunctionDef, ast.ClassDef, ast.arguments, ast.arg, ast.Assign, ast.Expr,
    ast.If, ast.While, ast.For, ast.Return, ast.Break, ast.Continue, ast.Pass, ast.Raise, ast.Delete, ast.Name,
    ast.Constant, ast.Tuple, ast.List, ast.Dict, ast.ListComp, ast.DictComp, ast.comprehension, ast.Call, ast.Attribute,
    ast.Subscript, ast.Slice, ast.Starred, ast.BinOp, ast.BoolOp, ast.UnaryOp, ast.Compare, ast.IfExp, ast.keyword,
    ast.expr_context, ast.operator, ast.boolop, ast.unaryop, ast.cmpop, ast.SetComp, ast.JoinedStr, ast.FormattedValue,
    ast.Try, ast.ExceptHandler,
)
BARRED_NODES = (ast.Div, ast.MatMult, ast.Pow)
SPECIAL = {"__init__", "__eq__", "__len__", "__contains__", "__call__"}
VALUE_METHODS = {"append", "extend", "get", "setdefault", "items", "values", "keys", "bit_length", "join", "split",
                 "startswith", "zfill"}
BARRED_NAMES = set(
    "register mro elements open input law version_info with_traceback add_note attrgetter breakpoint builtins compile "
    "copyright credits delattr dir eval exec exit gc getattr globals hasattr help id importlib license locals "
    "methodcaller os quit setattr super type vars sys format format_map".split()
)
BARRED_WORDS = re.compile(
    r"\b(type|typing|typing_extensions|enum|Enum|IntEnum|StrEnum|Flag|IntFlag|Generic|Protocol|ABC|ABCMeta|namedtuple|"
    r"NamedTuple|TypedDict|TYPE_CHECKING|abstractmethod)\b|dataclass|overload|contextmanager"
)
BARRED_STARTS = re.compile(r"_wall|_pe_|_dcw_|_enum_|_cm_|_twin_re_|_lay_|_law_|_stub_|_sre|_WallAttr|__")
VALUES = (int, str, bytes, list, tuple, dict, set)


def files():
    return sorted(FOLDER.glob("*.py"))


def plain(node, known=()):
    """Whether the node is a plain value at module level; known are the functions that it may name in a dict."""
    if isinstance(node, (ast.List, ast.Tuple)):
        return all(plain(part) for part in node.elts)
    if isinstance(node, ast.Dict):
        worths = [row for row in node.values if not (isinstance(row, ast.Name) and row.id in known)]
        return all(plain(part) for part in node.keys + worths)
    if isinstance(node, ast.UnaryOp):
        return isinstance(node.op, ast.USub) and plain(node.operand)
    return isinstance(node, ast.Constant)


def functions(tree):
    return [node for node in ast.walk(tree) if isinstance(node, ast.FunctionDef)]


def names_in(tree):
    return [node for node in ast.walk(tree) if isinstance(node, ast.Name)]


def stored_names(tree):
    """All names that are bound: variables, parameters, functions, classes and imports."""
    found = [node.id for node in names_in(tree) if not isinstance(node.ctx, ast.Load)]
    found += [node.arg for node in ast.walk(tree) if isinstance(node, ast.arg)]
    found += [node.name for node in tree.body if isinstance(node, (ast.FunctionDef, ast.ClassDef))]
    return found + imported(tree)


def imported(tree):
    return [name.name for node in tree.body if isinstance(node, ast.ImportFrom) for name in node.names]


def docstrings(tree):
    rows = [node for node in ast.walk(tree) if isinstance(node, (ast.Module, ast.ClassDef, ast.FunctionDef))]
    first = [node.body[0].value for node in rows if node.body and isinstance(node.body[0], ast.Expr)]
    return [node for node in first if isinstance(node, ast.Constant)]


class FormTest(unittest.TestCase):
    def setUp(self):
        self.trees = {path.stem: ast.parse(path.read_text()) for path in files()}
        self.nodes = [(stem, node) for stem, tree in self.trees.items() for node in ast.walk(tree)]
        classes = [node for _, node in self.nodes if isinstance(node, ast.ClassDef)]
        self.methods = {c.name: [row for row in c.body if isinstance(row, ast.FunctionDef)] for c in classes}
        self.attributes = {c.name: {
            node.attr for node in ast.walk(c) if isinstance(node, ast.Attribute) and isinstance(node.ctx, ast.Store)
        } for c in classes}

    def test_the_folder_contains_nothing_but_python_files(self):
        names = [path.name for path in FOLDER.iterdir() if path.name != "__pycache__"]
        for name in names:
            self.assertRegex(name, r"^(__init__|[a-z][a-z0-9_]*)\.py$")
            self.assertNotIn(name[:-3], vars(builtins))

    def test_sizes_and_characters(self):
        for path in files():
            text = path.read_text()
            self.assertTrue(all(char == "\n" or " " <= char <= "~" for char in text), path)
            rows = text.split("\n")
            self.assertLessEqual(len(rows), 399)
            self.assertLessEqual(max(len(row) for row in rows), 120, path)
            for node in functions(self.trees[path.stem]):
                self.assertLessEqual(node.end_lineno - node.lineno + 1, 40, node.name)

    def test_module_level(self):
        for stem, tree in self.trees.items():
            imports = True
            known = []
            for place, node in enumerate(tree.body):
                if isinstance(node, ast.Expr):
                    self.assertTrue(place == 0 and isinstance(node.value.value, str), stem)
                elif isinstance(node, ast.ImportFrom):
                    self.assertTrue(imports, stem)
                elif isinstance(node, ast.Assign):
                    self.assertTrue(len(node.targets) == 1 and isinstance(node.targets[0], ast.Name), stem)
                    self.assertTrue(plain(node.value, known), stem)
                else:
                    self.assertIsInstance(node, (ast.FunctionDef, ast.ClassDef))
                    known += [node.name] if isinstance(node, ast.FunctionDef) else []
                imports = imports and isinstance(node, (ast.Expr, ast.ImportFrom))
            bound = [node.name for node in tree.body if isinstance(node, (ast.FunctionDef, ast.ClassDef))]
            bound += [node.targets[0].id for node in tree.body if isinstance(node, ast.Assign)] + imported(tree)
            self.assertEqual(len(bound), len(set(bound)), stem)

    def test_imports_name_the_file_that_defines_and_go_round_nowhere(self):
        needs = {stem: set() for stem in self.trees}
        for stem, tree in self.trees.items():
            for node in tree.body:
                if isinstance(node, ast.ImportFrom):
                    package, _, file = node.module.partition(".")
                    self.assertEqual((package, node.level), ("openlanes", 0))
                    needs[stem].add(file)
                    there = self.trees[file].body
                    names = {row.name for row in there if isinstance(row, (ast.FunctionDef, ast.ClassDef))}
                    names |= {row.targets[0].id for row in there if isinstance(row, ast.Assign)}
                    for name in node.names:
                        self.assertIn(name.name, names)
                        self.assertIsNone(name.asname)
        while needs:
            free = [stem for stem in needs if not needs[stem]]
            self.assertTrue(free, needs)
            needs = {stem: needs[stem] - set(free) for stem in needs if stem not in free}

    def test_each_import_is_used(self):
        for stem, tree in self.trees.items():
            loads = {node.id for node in names_in(tree) if isinstance(node.ctx, ast.Load)}
            self.assertEqual(set(imported(tree)) - loads, set(), stem)

    def test_only_some_parts_of_the_language(self):
        for stem, node in self.nodes:
            self.assertIsInstance(node, NODES, stem)
            self.assertNotIsInstance(node, BARRED_NODES, stem)
            if isinstance(node, ast.Constant):
                self.assertIn(node.value.__class__, (int, str, bool, None.__class__))
            if isinstance(node, ast.FunctionDef):
                names = [row.id for row in node.decorator_list]
                self.assertTrue(set(names) <= {"property", "classmethod"} and len(names) <= 1)
                self.assertIsNone(node.returns)
            if isinstance(node, ast.ClassDef):
                self.assertEqual((node.decorator_list, node.keywords), ([], []))
            if isinstance(node, ast.Compare):
                for sign, other in zip(node.ops, node.comparators):
                    if isinstance(sign, (ast.Is, ast.IsNot)):
                        self.assertIsInstance(other, ast.Constant)

    def test_names(self):
        for stem, tree in self.trees.items():
            names = set(stored_names(tree))
            for name in names:
                self.assertNotIn(name, vars(builtins), stem)
                self.assertNotIn(name, BARRED_NAMES)
                self.assertNotRegex(name, BARRED_STARTS)
                self.assertRegex(name, r"^(_|_?[A-Za-z][A-Za-z0-9_]*)$")
            classes = {node.name for node in tree.body if isinstance(node, ast.ClassDef)} | set(imported(tree))
            inner = [node.arg for node in ast.walk(tree) if isinstance(node, ast.arg)]
            for node in functions(tree):
                inner += [row.id for row in names_in(node) if isinstance(row.ctx, ast.Store)]
            self.assertEqual(classes & set(inner), set(), stem)
            loads = {node.id for node in names_in(tree) if isinstance(node.ctx, ast.Load)}
            self.assertEqual(loads - names - BUILTINS, set(), stem)
            self.assertNotIn("_", loads)

    def test_methods_and_attributes(self):
        own = {row.name for rows in self.methods.values() for row in rows}
        attributes = {name for names in self.attributes.values() for name in names}
        properties = {row.name for rows in self.methods.values() for row in rows if row.decorator_list}
        values = {row.targets[0].id for _, c in self.nodes if isinstance(c, ast.ClassDef) for row in c.body
                  if isinstance(row, ast.Assign) and isinstance(row.value, ast.Constant)}
        self.assertEqual(values & (own | attributes), set())
        for name in (own - SPECIAL) | (attributes - {"index"}) | values:
            self.assertNotRegex(name, BARRED_STARTS)
            self.assertFalse(any(hasattr(value, name) for value in VALUES), name)
        for name in own:
            self.assertTrue(name in SPECIAL or not name.startswith("__"), name)
        self.assertEqual(own & attributes, set())
        for rows in self.methods.values():
            self.assertEqual(len(rows), len({row.name for row in rows}))
        for stem, node in self.nodes:
            if isinstance(node, ast.Attribute) and isinstance(node.ctx, ast.Load):
                self.assertIn(node.attr, own | attributes | values | VALUE_METHODS, stem)
            if isinstance(node, ast.Attribute) and isinstance(node.ctx, ast.Store):
                self.assertNotIn(node.attr, properties)
            if isinstance(node, ast.Call) and isinstance(node.func, ast.Attribute):
                self.assertIn(node.func.attr, own - properties | VALUE_METHODS, stem)

    def test_builtins_are_called_and_views_are_iterated_at_once(self):
        for stem, tree in self.trees.items():
            calls = [node for node in ast.walk(tree) if isinstance(node, ast.Call)]
            called = {id(node.func) for node in calls}
            plain_calls = [node for node in calls if isinstance(node.func, ast.Name)]
            held = {id(part) for node in plain_calls if node.func.id == "isinstance" for part in ast.walk(node.args[1])}
            over = {id(node.iter) for node in ast.walk(tree) if isinstance(node, (ast.For, ast.comprehension))}
            at_once = ("list", "tuple", "sorted", "sum", "len")
            inside = {id(part) for node in plain_calls if node.func.id in at_once for part in node.args}
            inside |= {id(part) for node in calls if isinstance(node.func, ast.Attribute) and node.func.attr == "join"
                       and isinstance(node.func.value, ast.Constant) for part in node.args}
            inside |= {id(part) for node in plain_calls if node.func.id == "reversed" for part in node.args
                       if isinstance(part, ast.Call) and part.func.id == "range"}
            for node in ast.walk(tree):
                if isinstance(node, ast.Name) and node.id in BUILTINS - {"ValueError", "property", "classmethod"}:
                    self.assertIn(id(node), called | held, (stem, node.id))
                if isinstance(node, ast.Call):
                    word = node.func.id if isinstance(node.func, ast.Name) else node.func.attr
                    if word in ("range", "zip", "enumerate", "reversed", "items", "values", "keys"):
                        self.assertIn(id(node), over | inside, (stem, word))
                    if word == "set":
                        self.assertIn(id(node), inside, stem)

    def test_errors_are_made_on_the_spot(self):
        errors = {node.name for node in self.trees["errors"].body if isinstance(node, ast.ClassDef)} - {"LaneError"}
        for stem, node in self.nodes:
            if isinstance(node, ast.Raise):
                self.assertIn(node.exc.func.id, errors, stem)
                self.assertIsNone(node.cause)

    def test_sets_are_sorted_or_counted_at_once(self):
        for stem, tree in self.trees.items():
            calls = [node for node in ast.walk(tree) if isinstance(node, ast.Call) and isinstance(node.func, ast.Name)]
            inside = {id(part) for node in calls if node.func.id in ("sorted", "len") for part in node.args}
            for node in ast.walk(tree):
                if isinstance(node, ast.SetComp):
                    self.assertIn(id(node), inside, stem)

    def test_only_own_errors_are_caught_and_a_finally_only_assigns(self):
        errors = {node.name for node in self.trees["errors"].body if isinstance(node, ast.ClassDef)} - {"LaneError"}
        for stem, node in self.nodes:
            if isinstance(node, ast.ExceptHandler):
                names = [row.id for row in ast.walk(node.type) if isinstance(row, ast.Name)]
                self.assertTrue(names and set(names) <= errors, stem)
                self.assertIsNone(node.name)
            if isinstance(node, ast.Try):
                for row in node.finalbody:
                    self.assertIsInstance(row, ast.Assign)
                    for part in ast.walk(row):
                        self.assertIsInstance(part, (ast.Assign, ast.Tuple, ast.Name, ast.Attribute, ast.expr_context))

    def test_f_strings_stand_on_one_line_and_have_no_strings_within(self):
        for stem, node in self.nodes:
            if isinstance(node, ast.JoinedStr):
                self.assertEqual(node.lineno, node.end_lineno, stem)
                for part in node.values:
                    if isinstance(part, ast.FormattedValue):
                        self.assertEqual((part.conversion, part.format_spec), (-1, None))
                        inner = [row.value for row in ast.walk(part.value) if isinstance(row, ast.Constant)]
                        self.assertFalse([row for row in inner if isinstance(row, str)])

    def test_words_and_strings(self):
        for path in files():
            tree = self.trees[path.stem]
            docs = {id(node) for node in docstrings(tree)}
            for node in ast.walk(tree):
                if isinstance(node, ast.Constant) and isinstance(node.value, str):
                    self.assertNotIn("%", node.value)
                    self.assertNotIn("\\", node.value)
                    self.assertFalse(node.value.endswith(("._", ".__")) or node.value.startswith("__"))
                    if id(node) not in docs:
                        self.assertNotRegex(node.value, BARRED_WORDS)
            for name in stored_names(tree):
                self.assertNotRegex(name, BARRED_WORDS)
            self.assertNotRegex(path.read_text(), "_wall|_WallAttr")

    def test_len_and_eq(self):
        for name, rows in self.methods.items():
            for row in rows:
                if row.name == "__len__":
                    returned = [node.value for node in ast.walk(row) if isinstance(node, ast.Return)]
                    self.assertEqual([value.func.id for value in returned], ["len"])
                if row.name in ("__eq__", "__len__", "__contains__"):
                    self.assertFalse([node for node in ast.walk(row) if isinstance(node, (ast.Assign, ast.For))], name)


if __name__ == "__main__":
    unittest.main()
