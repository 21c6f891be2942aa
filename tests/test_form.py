"""Tests of the form of the package: its interface, and the plainer ones of the rules of its language."""

import ast
import builtins
import importlib
import inspect
import re
import unittest
from pathlib import Path

PACKAGE = Path(__file__).parent.parent / "bailiwick"
FILES = sorted(PACKAGE.rglob("*.py"))

INTERFACE = {
    "bailiwick.base.kinds": {
        "is_fit": "(kind, value)", "is_form": "(kind, value)", "form_of": "(kind, text)", "is_less": "(kind, one, other)",
        "is_pattern": "(value)", "pattern_form": "(kind, pattern)", "does_match": "(kind, pattern, form)",
    },
    "bailiwick.base.names": {"is_name": "(value)", "name_text": "(name)", "read_name": "(text)"},
    "bailiwick.rules.types": {
        "Type": "(name, kind, above=None, *, single=False)", "house_types": "()", "type_fault": "(types)",
    },
    "bailiwick.rules.schemas": {
        "Class": "(name, family, above=(), *, must=(), may=(), named=(), places=(), lets=())", "Schema": "(types, classes)",
    },
    "bailiwick.rules.judge": {
        "entry_faults": "(schema, shape, entry)", "faults": "(schema, tree, number)",
        "first_fault": "(schema, tree, numbers=None)", "is_right": "(schema, value)",
    },
    "bailiwick.tree.trees": {
        "is_entry": "(schema, value)", "is_tree": "(schema, value)", "entry_of": "(schema, above, pair, classes, pairs)",
        "upward": "(tree, number)", "level": "(tree, number)", "name_of": "(tree, number)",
        "number_of": "(schema, tree, name)", "children": "(tree, number)", "beneath": "(tree, number)",
        "does_stand_beneath": "(tree, number, other)", "texts_of": "(tree, number, word)",
    },
    "bailiwick.tree.links": {
        "links_to": "(schema, tree, number)", "links_from": "(schema, tree, number)",
        "link_names": "(schema, tree, number, word)", "loose_links": "(schema, entries)",
        "without_links": "(schema, tree, number)", "removed": "(schema, tree, number)",
    },
    "bailiwick.tree.deeds": {
        "is_deed": "(value)", "is_unit": "(value)", "do_deed": "(schema, tree, deed)", "touched": "(schema, tree, deed)",
        "move_back": "(schema, tree, deed)",
    },
    "bailiwick.tree.units": {
        "do_unit": "(schema, tree, unit, *, used=())", "unit_touched": "(schema, tree, unit)", "is_wish": "(value)",
        "resolved": "(schema, tree, wish)", "resolved_unit": "(schema, tree, wishes)", "all_beneath": "(tree, number)",
    },
    "bailiwick.tree.directory": {"Directory": "(schema, tree=None)"},
    "bailiwick.ask.filters": {
        "is_filter": "(value)", "items_of": "(asked)", "value_at": "(schema, tree, asked, number)",
        "numbers_true": "(schema, tree, asked)", "filter_text": "(asked)", "read_filter": "(signs)",
    },
    "bailiwick.ask.alike": {
        "normal": "(asked)", "opposite": "(asked)", "is_normal": "(value)", "value_by": "(asked, values)",
        "are_alike": "(one, other)", "unlike_at": "(one, other)",
    },
    "bailiwick.ask.indexes": {"Index": "(schema, tree)"},
    "bailiwick.ask.search": {
        "Search": "(base, scope='tree', *, where=('and', ()), types=(), aliases='never', limit=None)",
        "find": "(schema, tree, search)", "reached": "(schema, tree, search)", "end_of": "(schema, tree, number)",
        "row_of": "(schema, tree, number, types)",
    },
    "bailiwick.ask.pages": {
        "page": "(schema, tree, search, count, cookie=0)", "sorted_numbers": "(schema, tree, search, keys)",
        "Kept": "(schema, tree, search, keys)",
    },
    "bailiwick.ask.watches": {
        "is_state": "(value)", "is_message": "(value)", "messages_between": "(one, other)",
        "state_behind": "(state, messages)", "Watch": "(schema, tree, search)",
    },
    "bailiwick.place.areas": {
        "in_area": "(schema, tree, number, area)", "area_of": "(schema, tree, area)", "areas_over": "(schema, tree, number)",
    },
    "bailiwick.place.shares": {
        "shared": "(schema, tree, number)", "givers": "(schema, tree, number)", "shown": "(schema, tree)",
    },
    "bailiwick.place.groups": {
        "members": "(schema, tree, group)", "does_have": "(schema, tree, group, value)", "chosen": "(schema, tree, group)",
        "groups_of": "(schema, tree, number)", "inner": "(schema, tree, group)",
    },
    "bailiwick.place.rights": {
        "is_granted": "(schema, tree, who, right, number, word=None)", "deciding": "(schema, tree, who, right, number, word=None)",
        "does_hold": "(schema, tree, rule, who, number)", "granted_types": "(schema, tree, who, right, number)",
    },
    "bailiwick.place.views": {
        "is_seen": "(schema, tree, who, number)", "view": "(schema, tree, who)", "needed": "(schema, tree, deed)",
        "done_by": "(schema, tree, who, unit, *, used=())",
    },
    "bailiwick.text.lines": {
        "tree_text": "(schema, tree)", "read_tree": "(schema, text)", "read_tree_lax": "(schema, text)", "units_text": "(units)",
        "read_units": "(text)", "read_units_lax": "(text)",
    },
    "bailiwick.far.holdings": {
        "is_plan": "(schema, tree, value)", "cut_tree": "(schema, tree, plan)", "root_of": "(schema, tree, plan, number)",
    },
    "bailiwick.far.guides": {"Guide": "(servers)", "is_trace": "(schema, tree, plan, value)"},
    "bailiwick.copy.rows": {
        "difference": "(one, other)", "applied": "(entries, changes)", "is_cookie": "(value)", "Row": "(identity, entries=None)",
    },
    "bailiwick.copy.copies": {"Copy": "()"},
    "bailiwick.many.letters": {
        "is_letter": "(value)", "are_letters": "(value)", "stamp_of": "(letter)", "fold": "(schema, tree, letters)",
        "horizon": "(names, letters)", "settled": "(names, letters)",
    },
    "bailiwick.many.writers": {"Writer": "(name, names, schema, tree=None)"},
    "bailiwick.text.shell": {"Shell": "(directory)"},
}
CONSTANTS = {
    "bailiwick.tree.directory": {"MAX_PLACES": 1000},
    "bailiwick.ask.filters": {"MAX_DEEP": 6, "MAX_PARTS": 32, "VALUES": ("false", "true", "unknown")},
    "bailiwick.ask.alike": {"MAX_ITEMS": 6},
    "bailiwick.ask.indexes": {"MARK": "\n"},
    "bailiwick.ask.search": {
        "SCOPES": ("base", "beneath", "one", "tree"), "ALIASES": ("always", "base", "never", "scope"),
    },
    "bailiwick.ask.pages": {"MAX_COUNT": 60, "MAX_KEYS": 3},
    "bailiwick.place.rights": {"RIGHTS": ("add", "move", "remove", "see", "write")},
    "bailiwick.text.lines": {"WIDTH": 60},
    "bailiwick.far.holdings": {"MAX_SERVERS": 20},
    "bailiwick.copy.rows": {"MAX_ROW": 1000},
    "bailiwick.many.letters": {"MAX_WRITERS": 4, "MAX_MADE": 60, "MAX_COUNT": 10 ** 6},
    "bailiwick.many.writers": {"MAX_LETTERS": 120},
}
METHODS = {
    ("bailiwick.rules.types", "Type"): ("name", "kind", "above", "is_single", "__eq__"),
    ("bailiwick.rules.schemas", "Class"): (
        "name", "family", "above", "must", "may", "named", "places", "lets", "__eq__"),
    ("bailiwick.rules.schemas", "Schema"): (
        "types", "classes", "fault_of", "__eq__", "kind_of", "is_single_type", "reach", "family_of", "is_beneath",
        "all_classes", "must_bear", "may_bear", "lets_bear", "shape_of", "naming_types", "extras_of", "can_stand"),
    ("bailiwick.tree.directory", "Directory"): (
        "schema", "tree", "place", "used", "do", "undo", "redo", "tree_at", "units"),
    ("bailiwick.ask.indexes", "Index"): (
        "looked", "sets", "follow", "with_form", "ordered", "with_gram", "entries", "twin"),
    ("bailiwick.ask.search", "Search"): (
        "base", "scope", "where", "types", "aliases", "limit", "at", "without_limit", "__eq__"),
    ("bailiwick.ask.pages", "Kept"): ("word", "left", "next"),
    ("bailiwick.ask.watches", "Watch"): ("search", "word", "told", "follow", "state", "twin"),
    ("bailiwick.far.holdings", "Server"): ("name", "above", "roots", "entries", "cuts", "glimpses", "ask"),
    ("bailiwick.far.guides", "Guide"): ("names", "ask", "place_of"),
    ("bailiwick.copy.rows", "Row"): ("identity", "place", "first", "cookie", "tell", "cut", "messages", "entries"),
    ("bailiwick.copy.copies", "Copy"): ("cookie", "is_open", "hear", "catch_up", "entries"),
    ("bailiwick.many.writers", "Writer"): (
        "name", "names", "letters", "tree", "fates", "horizon", "settled", "settled_tree", "make", "quiet", "hear",
        "free_number", "twin", "__eq__"),
    ("bailiwick.text.shell", "Shell"): ("who", "tell", "__call__", "__len__"),
}
# How many of the members of each class are properties; these stand first.
PROPERTIES = {"Type": 4, "Class": 8, "Schema": 2, "Directory": 4, "Index": 1, "Search": 6, "Kept": 2, "Watch": 3,
              "Server": 3, "Guide": 1, "Row": 4, "Copy": 2, "Writer": 8, "Shell": 1}
BUILTINS = set(
    "len range enumerate zip min max sum abs sorted reversed int str bool list tuple dict set isinstance ord repr any all divmod "
    "Exception ValueError TypeError KeyError IndexError LookupError ArithmeticError OverflowError property classmethod "
    "staticmethod".split())
METHODS_OF_VALUES = set(
    "append clear copy count endswith extend find get index insert isalnum isalpha isdigit islower isspace isupper items join keys "
    "ljust lower lstrip partition pop remove replace reverse rfind rjust rpartition rsplit rstrip setdefault split splitlines "
    "startswith strip update upper values zfill bit_length isascii isprintable".split())


def modules():
    """The files of the package with their syntax trees."""
    return [(path, ast.parse(path.read_text())) for path in FILES]


def dotted(path):
    """The name by which a file is imported."""
    parts = path.relative_to(PACKAGE.parent).with_suffix("").parts
    return ".".join(parts[:-1] if parts[-1] == "__init__" else parts)


def functions(tree):
    """All functions and methods of a file."""
    return [node for node in ast.walk(tree) if isinstance(node, ast.FunctionDef)]


class InterfaceTests(unittest.TestCase):
    """The names, arguments and kinds of values that the interface lists."""

    def test_names_and_arguments(self):
        for module, members in INTERFACE.items():
            held = importlib.import_module(module)
            for name, arguments in members.items():
                member = getattr(held, name)
                self.assertEqual(member.__module__, module)
                self.assertEqual(str(inspect.signature(member)), arguments, name)

    def test_methods_stand_in_their_classes(self):
        for (module, name), members in METHODS.items():
            held = getattr(importlib.import_module(module), name)
            for member in members:
                self.assertIn(member, vars(held))

    def test_properties(self):
        for (module, name), members in METHODS.items():
            held = getattr(importlib.import_module(module), name)
            for member in members:
                self.assertIs(isinstance(vars(held)[member], property), member in members[:PROPERTIES[name]])

    def test_constants(self):
        for module, members in CONSTANTS.items():
            held = importlib.import_module(module)
            for name, value in members.items():
                self.assertEqual(getattr(held, name), value)
                self.assertIs(type(getattr(held, name)), type(value))


class FileTests(unittest.TestCase):
    """Files and their size [L1, L10, L14]."""

    def test_nothing_but_plain_files(self):
        for path in PACKAGE.rglob("*"):
            if path.name == "__pycache__" or path.suffix == ".pyc":
                continue
            if path.is_dir():
                self.assertTrue((path / "__init__.py").is_file(), path)
            else:
                self.assertRegex(path.name, r"^[a-z0-9_]+\.py$")

    def test_lines(self):
        for path in FILES:
            text = path.read_text()
            self.assertLessEqual(len(text.splitlines()), 399, path)
            for line in text.splitlines():
                self.assertRegex(line, r"^[ -~]{0,120}$", path)

    def test_functions(self):
        for path, tree in modules():
            for node in functions(tree):
                self.assertLessEqual(node.end_lineno - node.lineno + 1, 40, (path, node.name))
                self.assertIsNotNone(ast.get_docstring(node) or node.name.startswith("__") or None, (path, node.name))


class ImportTests(unittest.TestCase):
    """Imports [L2, L16]."""

    def test_names_come_from_the_file_that_defines_them(self):
        for path, tree in modules():
            for node in ast.walk(tree):
                self.assertNotIsInstance(node, ast.Import)
                if isinstance(node, ast.ImportFrom):
                    self.assertEqual((node.level, node.module.split(".")[0]), (0, "bailiwick"), path)
                    held = ast.parse((PACKAGE.parent / (node.module.replace(".", "/") + ".py")).read_text())
                    own = {each.name for each in held.body if isinstance(each, (ast.FunctionDef, ast.ClassDef))}
                    own |= {each.targets[0].id for each in held.body if isinstance(each, ast.Assign)}
                    for each in node.names:
                        self.assertIn(each.name, own, (path, each.name))
                        self.assertIsNone(each.asname)

    def test_no_circles(self):
        imports = {dotted(path): {node.module for node in ast.walk(tree) if isinstance(node, ast.ImportFrom)}
                   for path, tree in modules()}
        left = dict(imports)
        while left:
            free = [name for name in left if not left[name] & set(left)]
            self.assertTrue(free, left)
            for name in free:
                del left[name]

    def test_all_imports_are_used(self):
        for path, tree in modules():
            names = {each.name for node in ast.walk(tree) if isinstance(node, ast.ImportFrom) for each in node.names}
            used = {node.id for node in ast.walk(tree) if isinstance(node, ast.Name)}
            self.assertEqual(names - used, set(), path)


class LanguageTests(unittest.TestCase):
    """Plainer rules of the language."""

    def test_statements_and_expressions(self):
        banned = (ast.Global, ast.AsyncFunctionDef, ast.Await, ast.Yield, ast.YieldFrom, ast.Div, ast.Set, ast.JoinedStr,
                  ast.NamedExpr, ast.GeneratorExp, ast.Lambda, ast.AsyncFor)
        for path, tree in modules():
            for node in ast.walk(tree):
                self.assertNotIsInstance(node, banned, path)
                if isinstance(node, ast.Constant):
                    self.assertNotIsInstance(node.value, (float, complex, bytes))

    def test_builtins(self):
        known = set(dir(builtins))
        for path, tree in modules():
            for node in ast.walk(tree):
                if isinstance(node, ast.Name) and node.id in known:
                    self.assertIn(node.id, BUILTINS, (path, node.lineno))
                    self.assertIsInstance(node.ctx, ast.Load, (path, node.lineno))
                if isinstance(node, (ast.arg, ast.FunctionDef, ast.ClassDef)):
                    name = getattr(node, "arg", None) or getattr(node, "name", None)
                    # A method may be called so; that of a row that is kept is.
                    self.assertTrue(name not in known or (path.name, name) == ("pages.py", "next"), (path, name))

    def test_methods(self):
        own = {node.name for path, tree in modules() for node in functions(tree)}
        for path, tree in modules():
            for node in ast.walk(tree):
                if isinstance(node, ast.Call) and isinstance(node.func, ast.Attribute):
                    self.assertIn(node.func.attr, METHODS_OF_VALUES | own, (path, node.lineno))

    def test_decorators(self):
        for path, tree in modules():
            for node in functions(tree):
                for each in node.decorator_list:
                    self.assertIn(each.id, ("property", "classmethod", "staticmethod"))

    def test_properties_have_names_of_their_own(self):
        properties, methods, attributes = set(), set(), set()
        for path, tree in modules():
            for node in ast.walk(tree):
                if isinstance(node, ast.ClassDef):
                    for each in functions(node):
                        is_property = any(getattr(mark, "id", "") == "property" for mark in each.decorator_list)
                        (properties if is_property else methods).add(each.name)
                if isinstance(node, ast.Attribute) and isinstance(node.ctx, ast.Store):
                    attributes.add(node.attr)
        self.assertEqual(properties & (methods | attributes | METHODS_OF_VALUES), set())
        self.assertEqual(methods & attributes, set())
        held = {name for value in ("", 0, [], {}, (), set(), b"") for name in dir(value) if not name.startswith("__")}
        self.assertEqual((properties | methods | attributes) & held, {"index"})

    def test_identity(self):
        for path, tree in modules():
            for node in ast.walk(tree):
                if isinstance(node, ast.Compare) and any(isinstance(op, (ast.Is, ast.IsNot)) for op in node.ops):
                    self.assertIn(node.comparators[0].value, (None, True, False))

    def test_words_and_strings(self):
        words = re.compile(r"\b(typing|enum|Enum|Flag|Generic|Protocol|ABC|namedtuple|TypedDict|dataclass|register|elements|mro|law)\b")
        for path, tree in modules():
            self.assertIsNone(words.search(path.read_text()), path)
            for node in ast.walk(tree):
                if isinstance(node, ast.Constant) and isinstance(node.value, str):
                    self.assertNotIn("%", node.value)

    def test_module_level(self):
        for path, tree in modules():
            names = []
            for node in tree.body:
                self.assertIsInstance(node, (ast.Expr, ast.ImportFrom, ast.FunctionDef, ast.ClassDef, ast.Assign), path)
                if isinstance(node, ast.Assign):
                    names.append(node.targets[0].id)
                elif isinstance(node, (ast.FunctionDef, ast.ClassDef)):
                    names.append(node.name)
                elif isinstance(node, ast.ImportFrom):
                    names += [each.name for each in node.names]
            self.assertEqual(len(names), len(set(names)), path)

    def test_local_names_are_no_imports_and_no_classes(self):
        for path, tree in modules():
            outer = {each.name for node in ast.walk(tree) if isinstance(node, ast.ImportFrom) for each in node.names}
            outer |= {node.name for node in tree.body if isinstance(node, ast.ClassDef)}
            for node in functions(tree):
                stored = {each.id for each in ast.walk(node) if isinstance(each, ast.Name) and isinstance(each.ctx, ast.Store)}
                stored |= {each.arg for each in ast.walk(node) if isinstance(each, ast.arg)}
                stored |= {each.name for each in ast.walk(node) if isinstance(each, ast.ExceptHandler) and each.name}
                self.assertEqual(stored & outer, set(), (path, node.name))

    def test_tables_are_only_read(self):
        for path, tree in modules():
            tables = {node.targets[0].id for node in tree.body if isinstance(node, ast.Assign)
                      and isinstance(node.value, (ast.Dict, ast.List))}
            for node in ast.walk(tree):
                if isinstance(node, ast.Call):
                    for each in [*node.args, *[word.value for word in node.keywords]]:
                        self.assertFalse(isinstance(each, ast.Name) and each.id in tables, (path, node.lineno))
                if isinstance(node, (ast.Return, ast.Assign)) and isinstance(node.value, ast.Name):
                    self.assertNotIn(node.value.id, tables, (path, node.lineno))


class ReadmeTests(unittest.TestCase):
    """The examples of README.md."""

    def test_examples(self):
        text = (PACKAGE.parent / "README.md").read_text()
        codes = re.findall(r"```python\n(.*?)```", text, re.DOTALL)
        self.assertEqual(len(codes), 2)
        for code in codes:
            told = []
            exec(code, {"print": lambda *values: told.append(" ".join([str(each) for each in values]))})
            comments = [line.split("# ", 1)[1] for line in code.splitlines() if "# " in line]
            self.assertEqual(told, comments)
