"""The form of the package: the rules of the language that can be seen file by file."""

import ast
import builtins
import os
import unittest

from creditturns import errors

FOLDER = os.path.join(os.path.dirname(os.path.dirname(os.path.abspath(__file__))), "creditturns")
BUILTINS = ("len range enumerate zip min max sum abs sorted reversed int str bool list tuple dict set isinstance ord "
            "repr any all divmod iter next ValueError NotImplemented TypeError "
            "property staticmethod classmethod").split()
LIBRARY = {"math": ["gcd", "lcm", "isqrt"], "heapq": ["heappush", "heappop", "heapify"]}
BARRED = ["register", "mro", "elements", "open", "input", "law", "version_info", "with_traceback", "add_note"]
WORDS = [r"\btype\b", r"\btyping\b", r"\benum\b", r"\bEnum\b", r"\bProtocol\b", r"\bABC\b", r"\bnamedtuple\b",
         r"\bGeneric\b", r"\bFlag\b", "dataclass", "overload", "contextmanager", "Meta", "_wall", "_WallAttr"]
PLAIN = (ast.FunctionDef, ast.ClassDef, ast.ImportFrom, ast.Assign, ast.Expr)
INTERFACE = {
    "ratios": ["Ratio"], "lengths": ["Lengths"], "leasts": ["Leasts", "leasts", "shows_leasts"],
    "buckets": ["Bucket"], "flows": ["Flow", "Single", "Spread", "Fed", "FedSingle", "FedSpread"],
    "links": ["Link"], "plays": ["Arrival", "Turn", "Sent", "Play"], "lines": ["Line"],
    "keeps": ["Lead", "keeps", "lead", "shows_lead"], "waits": ["Latest", "latest"],
    "mosts": ["Most", "Least", "most", "least", "shows_most", "shows_least"], "worsts": ["Worst", "worst"],
    "services": ["until", "service"], "delays": ["Delay", "Growing", "delay", "growing"],
    "aparts": ["Apart", "Widest", "apart", "widest"], "compared": ["Later", "Harm", "later", "alike", "harms"],
    "gates": ["Promise", "Gate"], "chosen": ["Chosen", "Roomy", "least_quantum", "greatest_quantum"],
    "told": ["Quanta", "Clash", "quanta", "shows_quanta"], "lookers": ["Looker"], "desk": ["Desk"],
    "texts": ["play_text", "turns_text", "gate_text"], "reader": ["read_play", "read_turns", "read_gate"],
}
METHODS = {
    "Ratio": "over ceiling read", "Lengths": "of between read floor ceiling has taken numbers shortest longest "
    "divisor conductor", "Bucket": "earliest rate_of fits lets read", "Flow": "longest step fewest turn_of is_regular "
    "round_of with_quantum renamed read", "Fed": "bucket", "Link": "gap names cycle others share with_gap read",
    "Play": "link arrivals log sent finish ended_at delay comings stretches",
    "Line": "put go run each_turn link now arrivals log sent order busy waiting credit_of set_quantum leave undo deeds "
    "trial tried attempt twin", "Promise": "read", "Gate": "link gap promises let_in give release leave set_quantum "
    "set_gap spare undo deeds trial tried attempt twin", "Desk": "say run gate_now deeds",
    "Looker": "link latest worst delay grows apart widest service",
}


def texts():
    for name in sorted(os.listdir(FOLDER)):
        if name != "__pycache__":
            with open(os.path.join(FOLDER, name), "rb") as file:
                yield name, file.read()


def trees():
    return {name[:-3]: ast.parse(text) for name, text in texts()}


def walk(kinds):
    for name, tree in trees().items():
        for node in ast.walk(tree):
            if isinstance(node, kinds):
                yield name, node


def mark_of(decorator):
    return decorator.attr if isinstance(decorator, ast.Attribute) else decorator.id


def bound_names(node):
    """The names that a function binds: its parameters and what it assigns."""
    rows = [node.args.args, node.args.kwonlyargs, [one for one in (node.args.vararg, node.args.kwarg) if one]]
    names = [one.arg for row in rows for one in row]
    for inner in ast.walk(node):
        if isinstance(inner, ast.Name) and isinstance(inner.ctx, ast.Store):
            names.append(inner.id)
    return names


class Form(unittest.TestCase):

    def test_files(self):
        for name, text in texts():
            self.assertRegex(name, r"^[a-z_]+\.py$")
            self.assertTrue(all(byte == 10 or 32 <= byte <= 126 for byte in text), name)
            rows = text.decode("ascii").split("\n")
            self.assertLessEqual(len(rows), 399, name)
            self.assertLessEqual(max(len(row) for row in rows), 120, name)
            for word in WORDS:
                self.assertNotRegex(text.decode("ascii"), word, name)

    def test_functions_are_small(self):
        for name, node in walk(ast.FunctionDef):
            self.assertLessEqual(node.end_lineno - node.lineno + 1, 40, (name, node.name))

    def test_module_level(self):
        for name, tree in trees().items():
            found = []
            for node in tree.body:
                self.assertIsInstance(node, PLAIN, name)
                if isinstance(node, (ast.FunctionDef, ast.ClassDef)):
                    found.append(node.name)
                if isinstance(node, ast.ImportFrom):
                    found += [one.name for one in node.names]
                if isinstance(node, ast.Assign):
                    found += [one.id for one in node.targets]
            self.assertEqual(len(found), len(set(found)), name)
            self.assertEqual(set(found) & set(dir(builtins)), set(), name)

    def test_imports(self):
        known = trees()
        above = {}
        for name, node in walk((ast.Import, ast.ImportFrom)):
            self.assertIsInstance(node, ast.ImportFrom, name)
            if node.module in LIBRARY:
                self.assertLessEqual({one.name for one in node.names}, set(LIBRARY[node.module]))
                continue
            self.assertTrue(node.module.startswith("creditturns."), (name, node.module))
            other = node.module.removeprefix("creditturns.")
            above.setdefault(name, []).append(other)
            defined = {one.name for one in known[other].body if isinstance(one, (ast.FunctionDef, ast.ClassDef))}
            defined |= {one.targets[0].id for one in known[other].body if isinstance(one, ast.Assign)}
            for one in node.names:
                self.assertIn(one.name, defined, (name, other))
                self.assertIsNone(one.asname)
        while above:
            free = [name for name in above if not any(other in above for other in above[name])]
            self.assertTrue(free, above)
            for name in free:
                del above[name]

    def test_each_import_is_used(self):
        for name, tree in trees().items():
            used = {node.id for node in ast.walk(tree) if isinstance(node, ast.Name)}
            told = [one.name for node in tree.body if isinstance(node, ast.ImportFrom) for one in node.names]
            self.assertLessEqual(set(told), used, name)

    def test_no_statement_or_expression_outside_the_language(self):
        kinds = (ast.Global, ast.AsyncFunctionDef, ast.AsyncFor, ast.AsyncWith, ast.Await, ast.Set,
                 ast.SetComp, ast.GeneratorExp, ast.AnnAssign, ast.Div, ast.MatMult, ast.Delete)
        for name, node in walk(kinds):
            self.fail((name, node.lineno))
        for name, node in walk(ast.Constant):
            self.assertNotIsInstance(node.value, (float, complex), (name, node.lineno))
            if isinstance(node.value, str):
                self.assertNotIn("%", node.value, (name, node.lineno))
        for name, node in walk(ast.Compare):
            for sign, right in zip(node.ops, node.comparators):
                if isinstance(sign, (ast.Is, ast.IsNot)):
                    self.assertTrue(isinstance(right, ast.Constant) and right.value is None, (name, node.lineno))

    def test_only_own_errors_are_caught(self):
        for name, node in walk(ast.ExceptHandler):
            self.assertIn(node.type.id, vars(errors), (name, node.lineno))

    def test_what_is_added_is_not_what_is_changed(self):
        # Of what stands in the code alone, anything else could be a list that walks over itself.
        for name, node in walk(ast.AugAssign):
            self.assertIsInstance(node.value, ast.Constant, (name, node.lineno))
        for name, node in walk(ast.Call):
            if isinstance(node.func, ast.Attribute) and node.func.attr in ("extend", "update"):
                fresh = isinstance(node.args[0], ast.Call) and node.args[0].func.id in ("list", "dict")
                self.assertTrue(fresh or isinstance(node.args[0], (ast.List, ast.ListComp)), (name, node.lineno))

    def test_decorators(self):
        for name, node in walk((ast.FunctionDef, ast.ClassDef)):
            for one in node.decorator_list:
                self.assertIn(mark_of(one), ("property", "setter", "staticmethod", "classmethod"), (name, node.name))
                if mark_of(one) == "setter":
                    self.assertEqual(one.value.id, node.name)

    def test_builtins(self):
        for name, node in walk(ast.Name):
            if node.id in dir(builtins):
                self.assertIsInstance(node.ctx, ast.Load)
                self.assertIn(node.id, BUILTINS, (name, node.lineno))

    def test_names(self):
        for name, node in walk((ast.Name, ast.Attribute, ast.FunctionDef, ast.ClassDef, ast.arg)):
            told = [getattr(node, field) for field in ("id", "attr", "name", "arg") if hasattr(node, field)][0]
            self.assertNotIn(told, BARRED, name)

    def test_local_names(self):
        for name, tree in trees().items():
            taken = set(dir(builtins))
            for node in tree.body:
                if isinstance(node, ast.ImportFrom):
                    taken |= {one.name for one in node.names}
                if isinstance(node, (ast.ClassDef, ast.FunctionDef)):
                    taken.add(node.name)
            for node in ast.walk(tree):
                if isinstance(node, ast.FunctionDef):
                    self.assertEqual(set(bound_names(node)) & taken, set(), (name, node.name))

    def test_methods_and_attributes_have_unlike_names(self):
        methods, properties, attributes = set(), set(), set()
        for _, node in walk(ast.ClassDef):
            for one in node.body:
                if isinstance(one, ast.FunctionDef):
                    is_property = any(mark_of(mark) in ("property", "setter") for mark in one.decorator_list)
                    (properties if is_property else methods).add(one.name)
        for _, node in walk(ast.Attribute):
            if isinstance(node.ctx, ast.Store):
                attributes.add(node.attr)
        self.assertEqual((methods & attributes, properties & attributes, methods & properties), (set(), set(), set()))


class Interface(unittest.TestCase):

    def test_all_names_are_defined_in_their_files(self):
        known = trees()
        for name, told in INTERFACE.items():
            defined = [one.name for one in known[name].body if isinstance(one, (ast.FunctionDef, ast.ClassDef))]
            for one in told:
                self.assertEqual(defined.count(one), 1, (name, one))

    def test_all_methods_are_defined_in_their_classes(self):
        classes = {node.name: node for _, node in walk(ast.ClassDef)}
        for name, told in METHODS.items():
            defined = [one.name for one in classes[name].body if isinstance(one, ast.FunctionDef)
                       and "setter" not in [mark_of(mark) for mark in one.decorator_list]]
            for one in told.split():
                self.assertEqual(defined.count(one), 1, (name, one))
