"""The form of the code of the package: the rules of ../shared/LANGUAGE.md that can be seen in a tree."""

import ast
import builtins
import os
import unittest

import lastdoors

FOLDER = os.path.dirname(lastdoors.__file__)
BUILTINS = """len range enumerate zip min max sum abs sorted reversed int str bool bytes list tuple dict set
    frozenset isinstance ord repr any all divmod pow iter next map getattr hasattr setattr Exception ValueError
    TypeError KeyError IndexError LookupError ZeroDivisionError ArithmeticError OverflowError RuntimeError
    NotImplementedError AttributeError StopIteration NotImplemented""".split()
METHODS = """append clear copy count endswith extend find get index insert isalnum isalpha isdigit islower isspace
    isupper items join keys ljust lower lstrip partition pop remove replace reverse rfind rjust rpartition rsplit
    rstrip setdefault split splitlines startswith strip update upper values zfill bit_length""".split()
SPECIAL = ["__init__", "__eq__", "__repr__", "__str__", "__len__"]
FROM_MATH = ["gcd", "lcm", "isqrt", "comb", "perm", "factorial"]
WORDS = """type typing enum Enum Flag Generic Protocol ABC register mro elements open input law exec eval compile
    dir exit gc globals help id locals os quit sys vars super""".split()


def sources():
    for name in sorted(os.listdir(FOLDER)):
        if name != "__pycache__":
            with open(os.path.join(FOLDER, name), encoding="utf-8") as file:
                yield name, file.read()


def trees():
    return [(name, ast.parse(text)) for name, text in sources()]


def functions(tree):
    return [node for node in ast.walk(tree) if isinstance(node, ast.FunctionDef)]


def bound_in(function):
    """The names of parameters and variables of a function."""
    names = [arg.arg for arg in ast.walk(function.args) if isinstance(arg, ast.arg)]
    return names + [node.id for node in ast.walk(function)
                    if isinstance(node, ast.Name) and isinstance(node.ctx, ast.Store)]


def imported(tree):
    """The pairs of module and name of all imports of a file."""
    return [(node.module, alias.name) for node in tree.body if isinstance(node, ast.ImportFrom)
            for alias in node.names]


class FormTest(unittest.TestCase):

    def test_files(self):
        for name, text in sources():
            self.assertRegex(name, r"^[a-z_]+\.py$")
            self.assertTrue(all(sign == "\n" or " " <= sign <= "~" for sign in text), name)
            self.assertLessEqual(len(text.splitlines()), 399, name)
            self.assertLessEqual(max(len(line) for line in text.splitlines()), 120, name)
            self.assertTrue(text.startswith('"""') and text.endswith("\n") and not text.endswith("\n\n"), name)

    def test_sizes_and_docstrings(self):
        for name, tree in trees():
            for function in functions(tree):
                self.assertLessEqual(function.end_lineno - function.lineno + 1, 40, (name, function.name))
                if not function.name.startswith("__"):
                    self.assertTrue(ast.get_docstring(function), (name, function.name))

    def test_imports(self):
        inside = {}
        for name, tree in trees():
            inside["lastdoors." + name[:-3]] = [module for module, _ in imported(tree) if module != "math"]
            for node in ast.walk(tree):
                self.assertNotIsInstance(node, ast.Import, name)
                if isinstance(node, ast.ImportFrom):
                    self.assertIn(node, tree.body, name)
                    self.assertTrue(all(alias.asname is None for alias in node.names), name)
            for module, word in imported(tree):
                if module == "math":
                    self.assertIn(word, FROM_MATH)
                else:
                    self.assertTrue(module.startswith("lastdoors."), (name, module))
        done = []
        while len(done) < len(inside):
            free = [name for name in inside if name not in done and all(part in done for part in inside[name])]
            self.assertTrue(free, "files import from each other")
            done.extend(free)

    def test_imports_name_the_file_that_defines_and_are_used(self):
        defined = {"lastdoors." + name[:-3]: tree for name, tree in trees()}
        for name, tree in trees():
            names = [node.id for node in ast.walk(tree) if isinstance(node, ast.Name)]
            for module, word in imported(tree):
                self.assertIn(word, names, (name, word))
                if module in defined:
                    own = [getattr(node, "name", None) for node in defined[module].body]
                    own += [node.targets[0].id for node in defined[module].body if isinstance(node, ast.Assign)]
                    self.assertIn(word, own, (name, word))

    def test_module_level(self):
        allowed = (ast.ImportFrom, ast.FunctionDef, ast.ClassDef, ast.Assign, ast.Expr)
        for name, tree in trees():
            for node in tree.body:
                self.assertIsInstance(node, allowed, name)
                if isinstance(node, ast.Assign):
                    self.assertTrue(len(node.targets) == 1 and isinstance(node.targets[0], ast.Name), name)
                    value = node.value.operand if isinstance(node.value, ast.UnaryOp) else node.value
                    self.assertIsInstance(value, (ast.Constant, ast.Tuple, ast.Dict), name)
                    inside = value.values if isinstance(value, ast.Dict) else getattr(value, "elts", [])
                    self.assertTrue(all(isinstance(part, (ast.Constant, ast.Tuple)) for part in inside), name)

    def test_nothing_that_is_not_allowed(self):
        barred = (ast.GeneratorExp, ast.Global, ast.AsyncFunctionDef, ast.Await, ast.Yield, ast.YieldFrom,
                  ast.Div, ast.MatMult, ast.NamedExpr, ast.AnnAssign, ast.Starred)
        for name, tree in trees():
            for node in ast.walk(tree):
                if isinstance(node, ast.Starred):
                    # Stars stand in tuple literals alone here.
                    self.assertTrue(any(isinstance(other, ast.Tuple) and node in other.elts
                                        for other in ast.walk(tree)), name)
                    continue
                self.assertNotIsInstance(node, barred, name)
                if isinstance(node, ast.Constant):
                    self.assertNotIsInstance(node.value, (float, complex), name)
                    self.assertFalse(isinstance(node.value, str) and "%" in node.value, name)
                if isinstance(node, (ast.FunctionDef, ast.ClassDef)):
                    self.assertEqual(node.decorator_list, [], name)
                if isinstance(node, (ast.Set, ast.SetComp)):
                    self.assertTrue(any(isinstance(call, ast.Call) and node in call.args
                                        and call.func.id in ("sorted", "len") for call in ast.walk(tree)), name)

    def test_names(self):
        own = [node.name for _, tree in trees() for node in ast.walk(tree)
               if isinstance(node, (ast.FunctionDef, ast.ClassDef))]
        for name, tree in trees():
            words = [word for _, word in imported(tree)]
            for node in ast.walk(tree):
                if isinstance(node, ast.Name) and hasattr(builtins, node.id):
                    self.assertIn(node.id, BUILTINS, name)
                    self.assertIsInstance(node.ctx, ast.Load, (name, node.id))
                if isinstance(node, ast.Call) and isinstance(node.func, ast.Attribute):
                    self.assertIn(node.func.attr, METHODS + own + SPECIAL, name)
            for function in functions(tree):
                for word in bound_in(function):
                    self.assertNotIn(word, words + WORDS, (name, function.name))
                    self.assertFalse(hasattr(builtins, word), (name, function.name, word))
                if function.name.startswith("__"):
                    self.assertIn(function.name, SPECIAL)


if __name__ == "__main__":
    unittest.main()
