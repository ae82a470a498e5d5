"""The package keeps to the rules of LANGUAGE.md, and the search for faults finds some where there are some."""

import ast
import pathlib
import unittest
import warnings

import language

ROOT = pathlib.Path(__file__).resolve().parent.parent
FOLDER = ROOT / language.PACKAGE


def sources():
    return {path.name: path.read_text(encoding="utf-8") for path in sorted(FOLDER.glob("*.py"))}


class PackageTest(unittest.TestCase):
    def test_the_folder_contains_nothing_else(self):
        others = [path.name for path in FOLDER.iterdir() if path.suffix != ".py" and path.name != "__pycache__"]
        self.assertEqual(others, [])
        for name in sources():
            self.assertRegex(name, r"\A([a-z][a-z0-9_]*|__init__|__main__)\.py\Z")

    def test_no_file_has_a_fault(self):
        for name, source in sources().items():
            with self.subTest(name):
                self.assertEqual(language.faults(source), [])

    def test_python_gives_no_warning(self):
        for name, source in sources().items():
            with self.subTest(name), warnings.catch_warnings():
                warnings.simplefilter("error")
                compile(source, name, "exec")

    def test_all_files_together_have_no_fault(self):
        files = {name.partition(".")[0]: source for name, source in sources().items()}
        self.assertEqual(language.shared_faults(files), [])

    def test_imports_name_the_file_that_defines_the_name(self):
        trees = {name: ast.parse(source) for name, source in sources().items()}
        for name, tree in trees.items():
            for node in ast.walk(tree):
                if isinstance(node, ast.ImportFrom):
                    other = trees[node.module.split(".")[1] + ".py"]
                    defined = {each for each, where in language.bound_names(other) if where.col_offset == 0}
                    self.assertLessEqual({alias.name for alias in node.names}, defined, name)


class FaultsTest(unittest.TestCase):
    def test_faults_are_found(self):
        for code in [
            "import os", "from json import loads", "def f(a, /):\n    return a", "x = 1.5", "def f(x):\n    return x / 2",
            "def f(x):\n    return x is f", "def f(_x):\n    return 1", "def f(x):\n    return any(a for a in x)",
            "def f(id):\n    return id", "def f(x):\n    return hash(x)", "X = \"a%\"", "X = 1\t",
            "def f(x):\n    seen = {1}\n    return x in seen", "X = 1 #" + "x" * 120, "# type", "f()",
            "class A:\n    def __len__(self):\n        return self.x", "class A:\n    def __hash__(self):\n        return 1",
            "def f():\n    raise ValueError", "def f():\n" + "    pass\n" * 40, "#\n" * 400,
            "def f():\n    try:\n        g()\n    except ValueError:\n        pass", "def f(x=[]):\n    return x",
            "from settingsmerge.errors import A\ndef f():\n    try:\n        g()\n    except (A, KeyError):\n        return 1",
            "def f(x):\n    try:\n        g()\n    finally:\n        x.append(1)",
            "def f(x):\n    try:\n        g()\n    finally:\n        x.y = x[0]",
            "def f(x):\n    try:\n        g()\n    finally:\n        return x",
            "def f(x):\n    try:\n        k = 1\n    finally:\n        x.y = k",
            "def f(x):\n    try:\n        g()\n    finally:\n        if x:\n            x.y = 1",
            "X = {1: [2]}", "X = len(\"a\")", "X = {1: f}\ndef f(x):\n    return x", "X = {}\ndef f(x):\n    return X[1](x)",
            "class A:\n    @classmethod\n    def f(cls, x):\n        return x(cls)",
            "def f(x):\n    y = yield x\n    return", "def f(x):\n    yield x\n    return 1",
            "def f(x):\n    try:\n        yield x\n    finally:\n        pass",
            "def f(x):\n    yield x\ndef g(x):\n    k = f(x)\n    return k",
            "def f(x):\n    y = range(x)\n    return y", "def f(x):\n    return x.items()",
            "def f(x):\n    return print(x)", "def f(x):\n    return list(x, key=1)",
            "def f(x):\n    for y in x:\n        x.append(y)", "def f(x):\n    for k, y in enumerate(x):\n        x[k] = y",
            "class A:\n    def __eq__(self, other):\n        k = 1\n        return k == other",
            "class A:\n    @property\n    def k(self):\n        self.x.append(1)\n        return 1",
            "class A:\n    @other\n    def k(self):\n        return 1", "X = 1\nX = 2",
            "class A:\n    def k(self):\n        return 1\n    def k(self):\n        return 2",
            "def f(x):\n    def g(y):\n        return y\n    return g(x)", "def f(x):\n    return lambda y: y",
        ]:
            with self.subTest(code):
                self.assertNotEqual(language.faults(code), [])

    def test_right_code_has_no_faults(self):
        for code in [
            "from settingsmerge.errors import A, B\ndef f(x):\n    try:\n        x.g()\n    except (A, B):\n        return 1",
            "def f(x):\n    y, k = x.y, None\n    try:\n        x.g()\n        k = True\n    finally:\n"
            "        if k is None:\n            x.y, x.k = y, k\n    return 1",
            "def f(x):\n    return x\nX = {\"a\": f, \"b\": (1, 2)}\ndef g(x):\n    k = X[x]\n    return k(x)",
            "class A:\n    @classmethod\n    def f(cls, x):\n        return cls(x)",
            "def f(xs):\n    for x in xs:\n        yield x",
        ]:
            with self.subTest(code):
                self.assertEqual(language.faults(code), [])

    def test_shared_faults_are_found(self):
        for code in [
            "class A:\n    def __init__(self):\n        self.x = 1\nclass B:\n    def x(self):\n        return 1",
            "class A:\n    def __init__(self):\n        self.keys = 1", "def f(x):\n    return x.missing",
            "def f(x):\n    x.sort()", "class A:\n    X = 1\n    def f(self):\n        return self.Y",
            "class A:\n    @staticmethod\n    def x():\n        return 1\nclass B:\n    def x(self):\n        return 1",
            "class A:\n    @property\n    def x(self):\n        return 1\n    def f(self):\n        self.x = 1",
            "class A:\n    @property\n    def items(self):\n        return 1",
        ]:
            with self.subTest(code):
                self.assertNotEqual(language.shared_faults({"a": code}), [])

    def test_imports_in_a_circle_are_found(self):
        files = {"a": "from settingsmerge.b import x", "b": "from settingsmerge.c import x", "c": "x = 1"}
        self.assertEqual(language.shared_faults(files), [])
        files["c"] = "from settingsmerge.a import x"
        self.assertNotEqual(language.shared_faults(files), [])


if __name__ == "__main__":
    unittest.main()
