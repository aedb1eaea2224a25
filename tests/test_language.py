"""The package keeps to the subset of Python that it is written in."""

import ast
import builtins
import os
import unittest

from saidandasked import errors

ROOT = os.path.join(os.path.dirname(os.path.dirname(os.path.abspath(__file__))), "saidandasked")

# The modules of the interface, in their order; a module imports only from those named before it.
ORDER = """errors words houses clauses programs lawforms outers leads stands ranks papers quarrels
meanings futures normals rights makers drafts opponents runs overs verdicts durations chains reading
texts ends alike covers narrow pools meets readings halves barring lawmaking promises wrongs idles
decided depths suites gaps misses learners tellings positions homes mending budgets spending entries
carrying atop fits weakest images stacks builders groups bits foretold readers desk""".split()

BUILTINS = """len range enumerate zip min max sum abs sorted reversed int str bool bytes list tuple dict
set frozenset isinstance ord repr any all divmod Exception ValueError TypeError KeyError IndexError
LookupError ZeroDivisionError ArithmeticError OverflowError RuntimeError NotImplementedError""".split()

METHODS = """append clear copy count endswith extend find get index insert isalnum isalpha isdigit islower
isspace isupper items join keys ljust lower lstrip partition pop remove replace reverse rfind rjust
rpartition rsplit rstrip setdefault split splitlines startswith strip update upper values zfill
bit_length add discard __init__""".split()

NEVER = """register mro elements open input law version_info with_traceback add_note breakpoint builtins
compile copyright credits delattr dir eval exec exit gc getattr globals hasattr help id importlib
license locals methodcaller os quit setattr type vars sys""".split()

WORDS = """type typing typing_extensions enum Enum IntEnum StrEnum Flag IntFlag Generic Protocol ABC ABCMeta
namedtuple NamedTuple TypedDict TYPE_CHECKING abstractmethod""".split()

ITERATORS = ("list", "tuple", "dict", "sorted", "sum", "min", "max", "any", "all")


def files():
    return sorted(name for name in os.listdir(ROOT) if name != "__pycache__")


def source(name):
    with open(os.path.join(ROOT, name), encoding="utf-8") as handle:
        return handle.read()


# Parsed once, so that a node is the same one wherever it is looked at.
TREES = [(name, ast.parse(source(name))) for name in files()]


def trees():
    return TREES


def called(node):
    return node.func.id if isinstance(node, ast.Call) and isinstance(node.func, ast.Name) else None


class Language(unittest.TestCase):
    def each(self, kinds):
        for name, tree in trees():
            for node in ast.walk(tree):
                if isinstance(node, kinds):
                    yield f"{name}:{getattr(node, 'lineno', 0)}", node

    def test_files(self):
        self.assertIn("__init__.py", files())
        self.assertLessEqual(len(files()), 100)
        self.assertEqual("", source("__init__.py"))
        for name in files():
            self.assertTrue(name.endswith(".py"), name)
            self.assertTrue(name == name.lower() and name[:-3].replace("_", "a").isalnum(), name)
            self.assertFalse(name.startswith(("law_", "test")), name)

    def test_lines(self):
        for name in files():
            text = source(name)
            self.assertLessEqual(len(text.split("\n")), 399, name)
            for at, line in enumerate(text.split("\n"), 1):
                self.assertLessEqual(len(line), 120, f"{name}:{at}")
                self.assertTrue(all(" " <= sign <= "~" for sign in line), f"{name}:{at}")

    def test_functions_are_short(self):
        for where, node in self.each(ast.FunctionDef):
            self.assertLessEqual(node.end_lineno - node.lineno + 1, 40, where)
            self.assertEqual([], node.decorator_list, where)
            self.assertIsNotNone(ast.get_docstring(node) or node.name == "__init__" or None, where)

    def test_imports(self):
        known = {name[:-3]: tree for name, tree in trees()}
        reach = {}
        for name, tree in known.items():
            reach[name] = []
            for node in tree.body:
                self.assertNotIsInstance(node, ast.Import)
                if isinstance(node, ast.ImportFrom):
                    package, _, module = node.module.partition(".")
                    self.assertEqual("saidandasked", package, name)
                    self.assertIn(module, known, name)
                    reach[name].append(module)
                    defined = [part.name for part in known[module].body if hasattr(part, "name")]
                    for part in known[module].body:
                        if isinstance(part, ast.Assign):
                            defined.append(part.targets[0].id)
                    for alias in node.names:
                        self.assertIn(alias.name, defined, name)
                        self.assertIsNone(alias.asname, name)
        self.modules_behind_one_another(reach)

    def modules_behind_one_another(self, reach):
        def all_behind(name, ahead):
            self.assertNotIn(name, ahead, "a ring of imports")
            found = set()
            for module in reach[name]:
                found |= {module} | all_behind(module, ahead + [name])
            return found

        for name in reach:
            for module in all_behind(name, []):
                if name in ORDER and module in ORDER:
                    self.assertLess(ORDER.index(module), ORDER.index(name), f"{name} imports {module}")

    def test_module_level(self):
        for name, tree in trees():
            for at, node in enumerate(tree.body):
                if isinstance(node, ast.Expr):
                    self.assertTrue(at == 0 and isinstance(node.value, ast.Constant), name)
                else:
                    kinds = (ast.ImportFrom, ast.FunctionDef, ast.ClassDef, ast.Assign)
                    self.assertIsInstance(node, kinds, name)

    def test_statements(self):
        barred = (ast.Global, ast.AsyncFunctionDef, ast.AsyncFor, ast.AsyncWith, ast.Await, ast.AnnAssign,
                  ast.Yield, ast.YieldFrom, ast.Div, ast.MatMult, ast.NamedExpr, ast.With)
        for where, node in self.each(barred):
            self.fail(f"{where} {node}")
        for where, node in self.each(ast.Try):
            # Only own errors are caught, each by its name.
            self.assertEqual((node.orelse, node.finalbody, len(node.body)), ([], [], 1), where)
            for handler in node.handlers:
                self.assertIsNone(handler.name, where)
                self.assertTrue(issubclass(getattr(errors, handler.type.id), errors.PageError), where)
        for where, node in self.each(ast.Constant):
            self.assertNotIsInstance(node.value, (float, complex), where)
        for where, node in self.each(ast.Compare):
            for sign, right in zip(node.ops, node.comparators):
                if isinstance(sign, (ast.Is, ast.IsNot)):
                    self.assertIsInstance(right, ast.Constant, where)
        for where, node in self.each(ast.BinOp):
            if isinstance(node.op, ast.Pow):
                self.assertIsInstance(node.right, ast.Constant, where)

    def test_builtins(self):
        for where, node in self.each(ast.Name):
            if hasattr(builtins, node.id):
                self.assertIsInstance(node.ctx, ast.Load, where)
                self.assertIn(node.id, BUILTINS + ["super"], where)
            self.assertNotIn(node.id, NEVER, where)
        for where, node in self.each((ast.arg, ast.keyword)):
            self.assertFalse(node.arg in NEVER or hasattr(builtins, node.arg) or node.arg.startswith("__"), where)

    def test_names(self):
        for where, node in self.each((ast.FunctionDef, ast.ClassDef)):
            self.assertFalse(node.name in NEVER or hasattr(builtins, node.name) and node.name != "__init__", where)
        for name, tree in trees():
            taken = [alias.name for node in tree.body if isinstance(node, ast.ImportFrom) for alias in node.names]
            taken += [node.name for node in tree.body if isinstance(node, ast.ClassDef)]
            bound = taken + [node.name for node in tree.body if isinstance(node, ast.FunctionDef)]
            self.assertEqual(len(bound), len(set(bound)), name)
            for node in ast.walk(tree):
                if isinstance(node, ast.Name) and isinstance(node.ctx, ast.Store):
                    self.assertNotIn(node.id, taken, f"{name}:{node.lineno}")
                if isinstance(node, ast.arg):
                    self.assertNotIn(node.arg, taken, f"{name}:{node.lineno}")

    def test_imported_names_are_used(self):
        for name, tree in trees():
            used = {node.id for node in ast.walk(tree) if isinstance(node, ast.Name)}
            for node in tree.body:
                if isinstance(node, ast.ImportFrom):
                    for alias in node.names:
                        self.assertIn(alias.name, used, name)

    def test_strings(self):
        for where, node in self.each(ast.Constant):
            if isinstance(node.value, str):
                self.assertNotIn("%", node.value, where)
                self.assertNotIn("__", node.value, where)
        for where, node in self.each((ast.Name, ast.Attribute, ast.FunctionDef, ast.ClassDef)):
            word = getattr(node, "id", None) or getattr(node, "attr", None) or getattr(node, "name", None)
            self.assertNotIn(word, WORDS, where)

    def test_methods(self):
        own = set()
        fields = set()
        for _, node in self.each(ast.ClassDef):
            own |= {part.name for part in node.body if isinstance(part, ast.FunctionDef)}
        for _, node in self.each(ast.Attribute):
            if isinstance(node.ctx, ast.Store):
                fields.add(node.attr)
        # The interface itself has a program of TooShort and one of Reader.
        self.assertEqual({"program"}, (own & fields) - {"__init__"})
        calls = {id(node.func) for _, node in self.each(ast.Call)}
        for where, node in self.each(ast.Attribute):
            if id(node) in calls:
                self.assertTrue(node.attr in METHODS or node.attr in own, where)
            else:
                self.assertIn(node.attr, fields, where)

    def test_what_is_iterated_at_once(self):
        for name, tree in trees():
            good = set()
            for node in ast.walk(tree):
                if isinstance(node, (ast.For, ast.comprehension)):
                    good.add(id(node.iter))
                elif called(node) in ITERATORS + ("enumerate", "zip"):
                    good |= {id(part) for part in node.args}
                elif isinstance(node, ast.Call) and getattr(node.func, "attr", "") == "join":
                    good.add(id(node.args[0]))
            for node in ast.walk(tree):
                lazy = called(node) in ("zip", "enumerate", "reversed", "range")
                view = isinstance(node, ast.Call) and getattr(node.func, "attr", "") in ("items", "keys", "values")
                if lazy or view or isinstance(node, ast.GeneratorExp):
                    self.assertIn(id(node), good, f"{name}:{node.lineno}")

    def test_sets_are_not_iterated(self):
        for name, tree in trees():
            good = set()
            for node in ast.walk(tree):
                if called(node) in ("len", "sorted"):
                    good |= {id(part) for part in node.args}
                elif isinstance(node, ast.Compare):
                    good |= {id(part) for part in node.comparators + [node.left]}
            for node in ast.walk(tree):
                if called(node) in ("set", "frozenset") or isinstance(node, (ast.Set, ast.SetComp)):
                    self.assertIn(id(node), good, f"{name}:{node.lineno}")

    def test_loops_leave_what_they_go_over(self):
        changing = ("append", "clear", "extend", "insert", "pop", "remove", "reverse", "setdefault", "update")
        for where, loop in self.each(ast.For):
            over = {ast.dump(loop.iter)}
            if isinstance(loop.iter, ast.Call) and called(loop.iter) in ("enumerate", "zip", "reversed"):
                over = {ast.dump(part) for part in loop.iter.args}
            for node in ast.walk(ast.Module(loop.body, [])):
                if isinstance(node, ast.Call) and isinstance(node.func, ast.Attribute):
                    if node.func.attr in changing:
                        self.assertNotIn(ast.dump(node.func.value), over, where)
                if isinstance(node, ast.Subscript) and isinstance(node.ctx, (ast.Store, ast.Del)):
                    target = ast.dump(node.value)
                    self.assertNotIn(target, over, where)


if __name__ == "__main__":
    unittest.main()
