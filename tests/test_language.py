"""The code of the package keeps to the plain subset of Python it is written in."""

import ast
import builtins
import os
import re
import unittest

PACKAGE = os.path.join(os.path.dirname(os.path.abspath(__file__)), os.pardir, "blowntrees")
LIBRARY = {"math": {"gcd", "lcm", "isqrt", "comb", "perm", "factorial"},
           "itertools": {"combinations", "permutations"}, "heapq": {"heappush", "heappop", "heapify"}}
NODES = (
    ast.Module, ast.Import, ast.ImportFrom, ast.alias, ast.FunctionDef, ast.arguments, ast.arg, ast.ClassDef,
    ast.Return, ast.Assign, ast.AugAssign, ast.For, ast.While, ast.If, ast.Raise, ast.Pass, ast.Break,
    ast.Continue, ast.Expr, ast.Try, ast.ExceptHandler, ast.BoolOp, ast.And, ast.Or, ast.BinOp, ast.Add,
    ast.Sub, ast.Mult, ast.FloorDiv, ast.Mod, ast.BitAnd, ast.UnaryOp, ast.USub, ast.Not, ast.Compare, ast.Eq,
    ast.NotEq, ast.Lt, ast.LtE, ast.Gt, ast.GtE, ast.Is, ast.IsNot, ast.In, ast.NotIn, ast.IfExp, ast.Call,
    ast.keyword, ast.Constant, ast.Attribute, ast.Subscript, ast.Slice, ast.Name, ast.Load, ast.Store, ast.List,
    ast.Tuple, ast.Dict, ast.ListComp, ast.DictComp, ast.comprehension, ast.Starred, ast.Lambda, ast.Pow,
    ast.Del, ast.Delete, ast.Assert, ast.JoinedStr, ast.FormattedValue,
)
BUILTINS = {
    "len", "range", "enumerate", "zip", "min", "max", "sum", "abs", "sorted", "reversed", "int", "str", "bool",
    "list", "tuple", "dict", "isinstance", "ord", "repr", "any", "all", "divmod", "ValueError", "KeyError",
}
METHODS = {
    "append", "clear", "copy", "count", "endswith", "extend", "find", "get", "index", "insert", "items", "join",
    "keys", "pop", "partition", "remove", "replace", "reverse", "rfind", "setdefault", "split", "startswith", "strip",
    "values",
}
BARRED = {
    "mro", "elements", "open", "input", "law", "version_info", "with_traceback", "add_note", "register",
    "attrgetter", "breakpoint", "builtins", "compile", "copyright", "credits", "delattr", "dir", "eval", "exec",
    "exit", "gc", "getattr", "globals", "hasattr", "help", "id", "importlib", "license", "locals", "methodcaller",
    "os", "quit", "setattr", "super", "type", "vars", "sys", "iter", "next", "map", "typing", "enum", "format",
}
AT_ONCE = {"zip", "enumerate", "reversed", "range"}


def source_files():
    return sorted(name for name in os.listdir(PACKAGE) if name != "__pycache__")


def source(name):
    with open(os.path.join(PACKAGE, name), encoding="utf-8") as file:
        return file.read()


def own_methods():
    """Return the names of all methods of the package but `__init__`."""
    kinds = [part for name in source_files() for part in ast.parse(source(name)).body if isinstance(part, ast.ClassDef)]
    names = [part.name for kind in kinds for part in kind.body if isinstance(part, ast.FunctionDef)]
    return {name for name in names if name != "__init__"}


def bound_names(node):
    """Return all names that are bound anywhere inside a node."""
    names = [part.id for part in ast.walk(node) if isinstance(part, ast.Name) and not isinstance(part.ctx, ast.Load)]
    names += [part.arg for part in ast.walk(node) if isinstance(part, ast.arg)]
    names += [part.name for part in ast.walk(node) if isinstance(part, (ast.FunctionDef, ast.ClassDef))]
    return names


def top_names(tree):
    names = []
    for part in tree.body:
        if isinstance(part, ast.ImportFrom):
            names += [alias.name for alias in part.names]
        elif isinstance(part, (ast.FunctionDef, ast.ClassDef)):
            names.append(part.name)
        elif isinstance(part, ast.Assign):
            names += [target.id for target in part.targets]
    return names


class Files(unittest.TestCase):
    def test_names_and_sizes(self):
        self.assertIn("__init__.py", source_files())
        for name in source_files():
            self.assertRegex(name, r"\A[a-z_]+\.py\Z")
            text = source(name)
            self.assertTrue(text.endswith("\n"), name)
            self.assertLessEqual(len(text.splitlines()), 399, name)
            self.assertIsNone(re.search(r"[^ -~\n]", text), name)
            for line in text.splitlines():
                self.assertLessEqual(len(line), 120, (name, line))

    def test_module_level(self):
        for name in source_files():
            body = ast.parse(source(name)).body
            self.assertIsInstance(body[0], ast.Expr, name)
            for part in body[1:]:
                self.assertIsInstance(part, (ast.ImportFrom, ast.FunctionDef, ast.ClassDef, ast.Assign), name)
                if isinstance(part, ast.Assign):
                    ast.literal_eval(part.value)
                    self.assertEqual(len(part.targets), 1, name)

    def test_imports(self):
        order = {}
        for name in source_files():
            tree = ast.parse(source(name))
            order[name[:-3]] = []
            for part in ast.walk(tree):
                self.assertNotIsInstance(part, ast.Import, name)
                if not isinstance(part, ast.ImportFrom):
                    continue
                self.assertTrue(all(alias.asname is None for alias in part.names), name)
                told = {alias.name for alias in part.names}
                if part.module in LIBRARY:
                    self.assertLessEqual(told, LIBRARY[part.module])
                    continue
                package, module = part.module.split(".")
                self.assertEqual(package, "blowntrees")
                defined = ast.parse(source(module + ".py"))
                own = [name for name in top_names(defined) if name not in imported(defined)]
                self.assertLessEqual(told, set(own), name)
                order[name[:-3]].append(module)
        while order:
            free = [name for name, needs in order.items() if not any(need in order for need in needs)]
            self.assertTrue(free, "files import from each other")
            order = {name: needs for name, needs in order.items() if name not in free}


def imported(tree):
    return {alias.name for part in tree.body if isinstance(part, ast.ImportFrom) for alias in part.names}


class Names(unittest.TestCase):
    def test_each_name_has_one_meaning(self):
        for name in source_files():
            tree = ast.parse(source(name))
            top = top_names(tree)
            self.assertEqual(len(top), len(set(top)), name)
            taken = imported(tree) | {part.name for part in tree.body if isinstance(part, ast.ClassDef)}
            for part in tree.body:
                if isinstance(part, ast.FunctionDef):
                    self.assertFalse(taken & set(bound_names(part)), (name, part.name))
                for bound in bound_names(part):
                    self.assertRegex(bound, r"\A(_|_?[A-Za-z][A-Za-z0-9_]*|__init__)\Z")
                    self.assertNotIn(bound, vars(builtins), name)
                    self.assertNotIn(bound, BARRED, name)

    def test_only_plain_builtins(self):
        for name in source_files():
            tree = ast.parse(source(name))
            own = set(bound_names(tree)) | set(top_names(tree))
            for part in ast.walk(tree):
                if isinstance(part, ast.Name) and isinstance(part.ctx, ast.Load) and part.id not in own:
                    self.assertIn(part.id, BUILTINS, (name, part.lineno))
                if isinstance(part, ast.Name) and part.id == "_":
                    self.assertNotIsInstance(part.ctx, ast.Load, (name, part.lineno))


class Classes(unittest.TestCase):
    def test_names_of_methods_and_attributes(self):
        methods = own_methods()
        attributes = set()
        for name in source_files():
            for part in ast.walk(ast.parse(source(name))):
                if isinstance(part, ast.Attribute) and not isinstance(part.ctx, ast.Load):
                    self.assertEqual(getattr(part.value, "id", None), "self", (name, part.lineno))
                    attributes.add(part.attr)
        self.assertFalse(methods & attributes)
        for kind in (str, int, list, dict, set, bytes, tuple):
            self.assertFalse((methods | attributes) & set(dir(kind)), kind)
        for name in methods | attributes:
            self.assertNotIn(name, BARRED)
            self.assertNotIn(name, vars(builtins))


class Code(unittest.TestCase):
    def parts(self):
        for name in source_files():
            for part in ast.walk(ast.parse(source(name))):
                yield (name, getattr(part, "lineno", 0)), part

    def test_only_plain_statements_and_signs(self):
        for where, part in self.parts():
            self.assertIsInstance(part, NODES, where)
            if isinstance(part, ast.FunctionDef):
                self.assertLessEqual(part.end_lineno - part.lineno + 1, 40, where)
                self.assertEqual(part.decorator_list, [], where)
            if isinstance(part, ast.Constant):
                self.assertIn(type(part.value), (int, str, bool, type(None)), where)
            if isinstance(part, ast.BinOp) and isinstance(part.op, ast.Pow):
                self.assertIsInstance(part.right, ast.Constant, where)

    def test_is_stands_beside_none(self):
        for where, part in self.parts():
            if isinstance(part, ast.Compare) and isinstance(part.ops[0], (ast.Is, ast.IsNot)):
                right = part.comparators[0]
                self.assertTrue(isinstance(right, ast.Constant) and right.value in (None, True, False), where)

    def test_strings(self):
        for name in source_files():
            for part in ast.walk(ast.parse(source(name))):
                if isinstance(part, ast.Constant) and isinstance(part.value, str):
                    self.assertNotIn("%", part.value, name)

    def test_calls(self):
        methods = METHODS | own_methods()
        for where, part in self.parts():
            if not isinstance(part, ast.Call):
                continue
            if isinstance(part.func, ast.Attribute):
                self.assertIn(part.func.attr, methods, where)
                self.assertEqual(part.keywords, [], where)
            else:
                self.assertIsInstance(part.func, ast.Name, where)
            if isinstance(part.func, ast.Name) and part.func.id in BUILTINS:
                self.assertLessEqual({keyword.arg for keyword in part.keywords}, {"key", "reverse", "default"}, where)

    def test_zips_and_ranges_are_iterated_at_once(self):
        for name in source_files():
            for part in ast.walk(ast.parse(source(name))):
                if isinstance(part, (ast.Assign, ast.Return)) and isinstance(part.value, ast.Call):
                    called = part.value.func
                    if isinstance(called, ast.Name):
                        self.assertNotIn(called.id, AT_ONCE, (name, part.lineno))

    def test_loops_do_not_change_what_they_go_over(self):
        for name in source_files():
            for part in ast.walk(ast.parse(source(name))):
                if isinstance(part, ast.For):
                    over = {node.id for node in ast.walk(part.iter) if isinstance(node, ast.Name)}
                    self.assertFalse(over & changed_in(part.body), (name, part.lineno))

    def test_errors_are_created_where_they_are_raised(self):
        for where, part in self.parts():
            if isinstance(part, ast.Raise):
                self.assertIsInstance(part.exc, ast.Call, where)
                self.assertIsInstance(part.exc.func, ast.Name, where)
                self.assertEqual(part.exc.keywords, [], where)
                self.assertFalse(any(isinstance(given, ast.Starred) for given in part.exc.args), where)


def changed_in(body):
    """Return the names whose items are changed in some statements."""
    changed = set()
    for part in [node for statement in body for node in ast.walk(statement)]:
        if isinstance(part, ast.Subscript) and not isinstance(part.ctx, ast.Load):
            base = part.value
            while isinstance(base, ast.Subscript):
                base = base.value
            if isinstance(base, ast.Name):
                changed.add(base.id)
        if isinstance(part, ast.Call) and isinstance(part.func, ast.Attribute):
            if part.func.attr in ("append", "extend", "insert", "pop", "remove", "clear", "reverse"):
                if isinstance(part.func.value, ast.Name):
                    changed.add(part.func.value.id)
    return changed


if __name__ == "__main__":
    unittest.main()
