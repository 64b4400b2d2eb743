"""The package keeps the rules of its language, as far as a look at the code can tell.

The checks are narrower than the rules in places: what the package does not need (generators, stored sets, operators,
decorators, handlers of Python's own errors) is refused here altogether.
"""

import ast
import builtins
import os
import unittest

FOLDER = os.path.join(os.path.dirname(os.path.dirname(os.path.abspath(__file__))), "chainpapers")
BUILTINS = """len range enumerate zip min max sum abs sorted reversed int str bool list tuple dict set isinstance ord repr
any all divmod ValueError""".split()
METHODS = """append clear copy count endswith extend find get index insert isalnum isalpha isdigit islower isspace
isupper items join keys ljust lower lstrip partition pop remove replace reverse rfind rjust rpartition rsplit rstrip
setdefault split splitlines startswith strip update upper values zfill bit_length""".split()
ITERATED = "zip enumerate reversed range".split()
VIEWS = "items keys values".split()
ITERATING = "list tuple dict sorted sum any all enumerate zip min max".split()
BARRED_WORDS = """type typing typing_extensions enum Enum IntEnum StrEnum Flag IntFlag Generic Protocol ABC ABCMeta
namedtuple NamedTuple TypedDict TYPE_CHECKING abstractmethod""".split()
BARRED_NAMES = """register mro elements open input law version_info with_traceback add_note attrgetter breakpoint
builtins compile copyright credits delattr dir eval exec exit gc getattr globals hasattr help id importlib license
locals methodcaller os quit setattr super type vars sys""".split()
STATEMENTS = (ast.Assign, ast.AugAssign, ast.If, ast.While, ast.For, ast.Return, ast.Break, ast.Continue, ast.Pass,
              ast.Raise, ast.Expr, ast.FunctionDef, ast.ClassDef, ast.ImportFrom, ast.Try)
PLAIN_VALUES = (ast.Constant, ast.Tuple, ast.List, ast.Dict, ast.Name, ast.Load, ast.UnaryOp, ast.USub)
REFUSED = (ast.Lambda, ast.GeneratorExp, ast.Yield, ast.YieldFrom, ast.Div, ast.NamedExpr, ast.Set, ast.SetComp,
           ast.AnnAssign, ast.Global, ast.Nonlocal, ast.Await, ast.Starred, ast.With, ast.Assert, ast.Match)


def read_files():
    found = {}
    for name in sorted(os.listdir(FOLDER)):
        if name != "__pycache__":
            with open(os.path.join(FOLDER, name), encoding="utf-8") as file:
                found[name] = file.read()
    return found


TEXTS = read_files()
TREES = {name: ast.parse(text) for name, text in TEXTS.items()}


def nodes(kind):
    return [(name, node) for name, tree in TREES.items() for node in ast.walk(tree) if isinstance(node, kind)]


def bound_names(tree):
    """The names that are bound at module level, once each time that they are."""
    found = []
    for node in tree.body:
        if isinstance(node, (ast.FunctionDef, ast.ClassDef)):
            found.append(node.name)
        elif isinstance(node, ast.ImportFrom):
            found.extend(alias.name for alias in node.names)
        elif isinstance(node, ast.Assign):
            found.extend(target.id for target in node.targets)
    return found


def defined_names(tree):
    return [node.name for node in tree.body if isinstance(node, (ast.FunctionDef, ast.ClassDef))] + [
        target.id for node in tree.body if isinstance(node, ast.Assign) for target in node.targets]


def local_names(function):
    arguments = [argument.arg for argument in function.args.args]
    caught = [node.name for node in ast.walk(function) if isinstance(node, ast.ExceptHandler) and node.name]
    return arguments + caught + [node.id for node in ast.walk(function)
                                 if isinstance(node, ast.Name) and isinstance(node.ctx, ast.Store)]


class Texts(unittest.TestCase):
    def test_files(self):
        self.assertLessEqual(len(TEXTS), 100)
        self.assertIn("__init__.py", TEXTS)
        for name in TEXTS:
            self.assertRegex(name, r"^[a-z_][a-z0-9_]*\.py$")

    def test_characters_and_sizes(self):
        for name, text in TEXTS.items():
            self.assertTrue(all(sign == "\n" or " " <= sign <= "~" for sign in text), name)
            lines = text.split("\n")
            self.assertLessEqual(len(lines) - 1, 399, name)
            self.assertLessEqual(max(map(len, lines)), 120, name)
            self.assertTrue(text.endswith("\n") and not text.endswith("\n\n"), name)
            self.assertNotIn("_wall", text)

    def test_functions_are_short(self):
        for name, node in nodes(ast.FunctionDef):
            self.assertLessEqual(node.end_lineno - node.lineno + 1, 40, (name, node.name))

    def test_strings(self):
        documentation = {id(node.body[0].value) for _, node in nodes((ast.Module, ast.FunctionDef, ast.ClassDef))
                         if node.body and isinstance(node.body[0], ast.Expr)}
        for name, node in nodes(ast.Constant):
            if isinstance(node.value, str):
                self.assertNotIn(chr(37), node.value, name)
                self.assertFalse(node.value.endswith(("._", ".__")), name)
                if id(node) not in documentation:
                    for word in BARRED_WORDS:
                        self.assertNotIn(word, node.value.replace("_", " ").split(), name)
            else:
                self.assertIsInstance(node.value, (int, bool, type(None)), name)


class Structure(unittest.TestCase):
    def test_documented(self):
        for name, node in nodes((ast.Module, ast.FunctionDef, ast.ClassDef)):
            if getattr(node, "name", "") != "__init__":
                self.assertTrue(ast.get_docstring(node), (name, getattr(node, "name", "")))

    def test_module_level(self):
        for name, tree in TREES.items():
            self.assertIsInstance(tree.body[0], ast.Expr, name)
            last_import = max([at for at, node in enumerate(tree.body) if isinstance(node, ast.ImportFrom)], default=0)
            for at, node in enumerate(tree.body[1:], 1):
                self.assertIsInstance(node, (ast.ImportFrom, ast.FunctionDef, ast.ClassDef, ast.Assign), name)
                self.assertEqual(isinstance(node, ast.ImportFrom), at <= last_import, name)
                if isinstance(node, ast.Assign):
                    self.assertEqual(len(node.targets), 1)
                    for part in ast.walk(node.value):
                        self.assertIsInstance(part, PLAIN_VALUES, name)
                    for part in list(ast.iter_child_nodes(node.value)):
                        self.assertNotIsInstance(part, (ast.List, ast.Dict), name)
            self.assertEqual(len(set(bound_names(tree))), len(bound_names(tree)), name)

    def test_imports(self):
        ahead = {}
        for name, node in nodes((ast.Import, ast.ImportFrom)):
            self.assertIsInstance(node, ast.ImportFrom, name)
            package, _, module = node.module.partition(".")
            self.assertEqual((package, node.level), ("chainpapers", 0), name)
            for alias in node.names:
                self.assertIsNone(alias.asname)
                self.assertIn(alias.name, defined_names(TREES[module + ".py"]), name)
            ahead.setdefault(name, set()).add(module + ".py")
        done = set()
        while len(done) < len(TREES):
            ready = {name for name in TREES if name not in done and ahead.get(name, set()) <= done}
            self.assertTrue(ready, sorted(set(TREES) - done))
            done |= ready

    def test_imports_are_used(self):
        for name, tree in TREES.items():
            used = {node.id for node in ast.walk(tree) if isinstance(node, ast.Name)}
            for node in tree.body:
                if isinstance(node, ast.ImportFrom):
                    self.assertEqual([alias.name for alias in node.names if alias.name not in used], [], name)

    def test_statements(self):
        for name, node in nodes(ast.stmt):
            self.assertIsInstance(node, STATEMENTS, (name, node.lineno))
        self.assertEqual([(name, node.lineno) for name, node in nodes(REFUSED)], [])
        for name, node in nodes((ast.FunctionDef, ast.ClassDef)):
            self.assertEqual(node.decorator_list, [])
        for name, node in nodes(ast.ClassDef):
            for part in node.body:
                self.assertIsInstance(part, (ast.FunctionDef, ast.Expr), name)
                if isinstance(part, ast.FunctionDef) and part.name.startswith("__"):
                    self.assertEqual(part.name, "__init__")
        for name, node in nodes(ast.FunctionDef):
            inner = [part for part in ast.walk(node) if isinstance(part, ast.FunctionDef)]
            self.assertEqual(len(inner), 1, (name, node.name))
            self.assertFalse(node.args.defaults or node.args.vararg or node.args.kwarg or node.args.kwonlyargs)
        for name, node in nodes(ast.Raise):
            self.assertIsInstance(node.exc, ast.Call, name)
        for name, node in nodes(ast.Compare):
            for sign, other in zip(node.ops, node.comparators):
                if isinstance(sign, (ast.Is, ast.IsNot)):
                    self.assertIn(ast.unparse(other), ("None", "True", "False"), (name, node.lineno))


    def test_handlers(self):
        """Only errors of the package are caught, and what is caught is read off its own attributes alone."""
        own = {node.name for name in ("errors.py", "texterrors.py") for node in TREES[name].body
               if isinstance(node, ast.ClassDef)}
        for name, node in nodes(ast.Try):
            self.assertFalse(node.orelse or node.finalbody, name)
            self.assertEqual(len(node.handlers), 1, name)
        for name, node in nodes(ast.ExceptHandler):
            caught = node.type.elts if isinstance(node.type, ast.Tuple) else [node.type]
            self.assertLessEqual({error.id for error in caught}, own, name)
            read = [part for part in ast.walk(node) if isinstance(part, ast.Name) and part.id == node.name]
            held = [part.value for part in ast.walk(node) if isinstance(part, ast.Attribute) and part.attr != "args"]
            self.assertTrue(all(part in held for part in read), name)


class Names(unittest.TestCase):
    def test_bound_names(self):
        known = (set(dir(builtins)) | set(BARRED_NAMES)) - {"_"}
        for name, tree in TREES.items():
            for bound in bound_names(tree):
                self.assertNotIn(bound, known, name)
                self.assertRegex(bound, r"^_?[A-Za-z][A-Za-z0-9_]*$")
        for name, function in nodes(ast.FunctionDef):
            self.assertNotIn(function.name, set(BARRED_NAMES), name)
            imported = {alias.name for node in TREES[name].body if isinstance(node, ast.ImportFrom)
                        for alias in node.names}
            classes = {node.name for node in TREES[name].body if isinstance(node, ast.ClassDef)}
            for local in local_names(function):
                self.assertNotIn(local, known | imported | classes, (name, function.name))

    def test_names_that_are_read_are_known(self):
        for name, tree in TREES.items():
            known = set(bound_names(tree)) | set(BUILTINS)
            for function in [node for node in ast.walk(tree) if isinstance(node, ast.FunctionDef)]:
                local = set(local_names(function))
                for node in ast.walk(function):
                    if isinstance(node, ast.Name) and isinstance(node.ctx, ast.Load):
                        self.assertIn(node.id, known | local, (name, function.name))
                        self.assertNotEqual(node.id, "_", (name, function.name))

    def test_methods(self):
        own = {function.name for _, node in nodes(ast.ClassDef) for function in node.body
               if isinstance(function, ast.FunctionDef)}
        for name, node in nodes(ast.Call):
            if isinstance(node.func, ast.Attribute):
                self.assertIn(node.func.attr, set(METHODS) | own, (name, node.lineno))
            if node.keywords:
                self.assertIsInstance(node.func, ast.Name)
                self.assertIn(node.func.id, BUILTINS)

    def test_attributes(self):
        stored = {node.attr for _, node in nodes(ast.Attribute) if isinstance(node.ctx, ast.Store)}
        called = {id(node.func) for _, node in nodes(ast.Call)}
        for name, node in nodes(ast.Attribute):
            if id(node) not in called:
                self.assertIn(node.attr, stored, (name, node.lineno))
        methods = {function.name for _, node in nodes(ast.ClassDef) for function in node.body
                   if isinstance(function, ast.FunctionDef)}
        self.assertEqual(stored & methods, set())
        for attribute in stored:
            for value in (0, "", [], {}, (), b""):
                self.assertFalse(hasattr(value, attribute), attribute)

    def test_what_is_iterated_at_once(self):
        iterated = {id(node.iter) for _, node in nodes((ast.For, ast.comprehension))}
        for _, node in nodes(ast.Call):
            if isinstance(node.func, ast.Name) and node.func.id in ITERATING and node.args:
                iterated |= {id(node.args[0])} if node.func.id != "zip" else {id(argument) for argument in node.args}
        for name, node in nodes(ast.Call):
            called = node.func.id if isinstance(node.func, ast.Name) else getattr(node.func, "attr", "")
            if called in (ITERATED if isinstance(node.func, ast.Name) else VIEWS):
                self.assertIn(id(node), iterated, (name, node.lineno))
            if called == "set":
                self.assertTrue(self.is_in_sorted_or_len(node), (name, node.lineno))

    def is_in_sorted_or_len(self, node):
        return any(call.args and call.args[0] is node for _, call in nodes(ast.Call)
                   if isinstance(call.func, ast.Name) and call.func.id in ("sorted", "len"))
