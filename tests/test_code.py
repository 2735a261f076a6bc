"""The form of the code, as far as it is plainly counted, and where the interface stands."""

import ast
import importlib
import inspect
import unittest
from pathlib import Path

FOLDER = Path(__file__).resolve().parent.parent / "ringindexes"
FILES = sorted(FOLDER.glob("*.py"))

CLASSES = {
    "forms": {"Form": ["__call__", "__add__", "__radd__", "__sub__", "__rsub__", "__mul__", "__rmul__", "__neg__",
                       "__eq__", "__lt__", "__le__", "__gt__", "__ge__", "read"]},
    "counters": {"Counter": ["value", "change", "__add__", "__radd__", "__sub__", "__iadd__", "__isub__",
                             "__floordiv__", "__mod__", "__and__", "__eq__"]},
    "schemes": {"Scheme": ["wrap", "slot", "empty", "full", "when", "change", "remade", "__eq__", "spare", "doubled",
                           "masked", "counted", "noted", "read"]},
    "rings": {"Slots": ["__getitem__", "__setitem__", "__len__"], "Tests": ["is_empty", "is_full"],
              "Ring": ["put", "put_all", "take", "put_at", "take_at", "number", "has_note", "__bool__"]},
    "queues": {"Queue": ["put", "take", "oldest", "__len__", "__bool__", "__contains__"],
               "Watch": ["put", "take", "broken", "deeds", "held"]},
    "runs": {"Run": ["pieces", "all_deeds", "__add__", "__iadd__", "__mul__", "__eq__", "__len__", "__getitem__",
                     "read"]},
    "tracks": {"Track": ["play", "put_count", "taken", "held", "deeds", "broken"]},
    "verdicts": {"Verdict": ["__bool__", "cause", "room", "window", "run"]},
    "sizesets": {"SizeSet": ["early", "start", "period", "rests", "__contains__", "__and__", "__or__", "__le__",
                             "__eq__", "__bool__", "below", "least", "none", "full_set"]},
    "blocks": {"BlockRing": ["started", "put_block", "take_block", "held", "both_at", "__getitem__", "__bool__"]},
    "late": {"Log": ["__iadd__", "put_count", "held", "__getitem__"],
             "Reader": ["__call__", "believed", "lag", "rest"],
             "Belief": ["believed", "lost", "looks_empty", "number_right", "place_right", "__bool__"]},
    "hands": {"Hands": ["writing", "reading", "looking", "telling", "way", "scheme", "change", "remade", "__eq__"]},
    "bench": {"Bench": ["step", "play", "broken", "levels", "steps"]},
    "handcheck": {"HandsVerdict": ["cause", "start", "run", "__bool__"]},
    "several": {"Putters": ["step", "play", "broken", "levels", "steps"],
                "Fan": ["play", "broken", "put_count", "deeds", "__getitem__"],
                "SeveralVerdict": ["cause", "start", "run", "__bool__"]},
    "changes": {"Menu": ["__len__", "__getitem__", "__call__"]},
    "sessions": {"Session": ["__getitem__", "__setitem__", "__contains__", "__len__", "keep", "names", "remove",
                             "change", "play", "played", "break_at", "trial", "within", "attempt", "trying"]},
    "console": {"Console": ["say", "session"]},
}

FUNCTIONS = {"forms": ["show_form"], "schemes": ["show_scheme"], "runs": ["show_run"],
             "slots": ["modulus_of", "slot_of", "gap_of"], "rooms": ["room_of"],
             "windows": ["window_of", "alike_of"], "verdicts": ["verdict_of"],
             "sizes": ["sizes_of", "widths_of"],
             "blocks": ["block_parts", "blocks_right", "block_break", "block_sizes"],
             "late": ["belief_of", "right_lags", "place_lags"],
             "handcheck": ["hands_verdict", "shortest_break"], "several": ["putters_verdict", "fan_verdict"],
             "papers": ["paper_of", "hands_paper"], "checker": ["check_paper"],
             "changes": ["least_sets", "reason_of"]}


def named(module, name):
    return getattr(importlib.import_module(f"ringindexes.{module}"), name)


class CodeTest(unittest.TestCase):

    def test_the_folder_holds_files_of_python_alone(self):
        others = [path.name for path in FOLDER.iterdir() if path.suffix != ".py" and path.name != "__pycache__"]
        self.assertEqual(others, [])
        self.assertIn("__init__.py", [path.name for path in FILES])

    def test_characters_and_lengths(self):
        for path in FILES:
            text = path.read_bytes().decode("ascii")
            self.assertEqual([sign for sign in text if sign != "\n" and not " " <= sign <= "~"], [], path.name)
            self.assertLessEqual(len(text.splitlines()), 399, path.name)
            self.assertLessEqual(max(map(len, text.splitlines())), 120, path.name)

    def test_functions_are_small(self):
        for path in FILES:
            for node in ast.walk(ast.parse(path.read_text())):
                if isinstance(node, ast.FunctionDef):
                    self.assertLessEqual(node.end_lineno - node.lineno + 1, 40, f"{path.name}: {node.name}")

    def test_lists_whose_items_change_are_made_by_comprehensions(self):
        # Beside classes with a product of their own, `[x] * n` is not plainly a new list.
        for path in FILES:
            for node in ast.walk(ast.parse(path.read_text())):
                if isinstance(node, ast.BinOp) and isinstance(node.op, ast.Mult):
                    for side in (node.left, node.right):
                        self.assertNotIsInstance(side, (ast.List, ast.ListComp), f"{path.name}: {node.lineno}")

    def test_properties_have_names_of_their_own(self):
        properties, settable, methods, assigned = set(), set(), set(), set()
        for path in FILES:
            for node in ast.walk(ast.parse(path.read_text())):
                if isinstance(node, ast.FunctionDef):
                    told = [ast.unparse(decorator) for decorator in node.decorator_list]
                    if told == ["property"]:
                        properties.add(node.name)
                    elif told == [f"{node.name}.setter"]:
                        settable.add(node.name)
                    else:
                        methods.add(node.name)
                elif isinstance(node, ast.Attribute) and isinstance(node.ctx, ast.Store):
                    assigned.add(node.attr)
        self.assertEqual(properties & methods, set())
        self.assertEqual(assigned & (properties - settable), set())
        self.assertEqual({name for name in assigned & methods}, set())

    def test_plain_statements_alone(self):
        barred = (ast.AugAssign, ast.GeneratorExp, ast.Lambda, ast.Global, ast.Nonlocal, ast.Set, ast.SetComp, ast.Div)
        for path in FILES:
            for node in ast.walk(ast.parse(path.read_text())):
                self.assertNotIsInstance(node, barred, path.name)
                if isinstance(node, ast.Constant):
                    self.assertNotIsInstance(node.value, (float, complex), path.name)
                    self.assertFalse(isinstance(node.value, str) and "%" in node.value, path.name)

    def test_imports_are_from_the_package(self):
        library = {"heapq", "math", "itertools", "collections", "__future__"}
        for path in FILES:
            for node in ast.walk(ast.parse(path.read_text())):
                self.assertNotIsInstance(node, ast.Import, path.name)
                if isinstance(node, ast.ImportFrom):
                    self.assertEqual(node.level, 0, path.name)
                    self.assertTrue(node.module in library or node.module.startswith("ringindexes."), path.name)


class InterfaceTest(unittest.TestCase):

    def test_classes_and_their_methods_stand_where_they_are_listed(self):
        for module, classes in CLASSES.items():
            for name, methods in classes.items():
                kind = named(module, name)
                self.assertTrue(inspect.isclass(kind))
                self.assertEqual(kind.__module__, f"ringindexes.{module}")
                for method in methods:
                    self.assertIn(method, vars(kind), f"{name}.{method}")

    def test_functions_stand_where_they_are_listed(self):
        for module, functions in FUNCTIONS.items():
            for name in functions:
                function = named(module, name)
                self.assertTrue(inspect.isfunction(function))
                self.assertEqual(function.__module__, f"ringindexes.{module}")
