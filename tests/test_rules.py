"""The rules of LANGUAGE.md and the interface of DOC.md, as far as a script can see them in the files of the package."""

import ast
import os
import unittest

from tests.rules import PACKAGE, Source, complaints

FOLDER = os.path.join(os.path.dirname(os.path.dirname(os.path.abspath(__file__))), PACKAGE)

# What the interface lists for each module: functions (None), and classes with their methods.
INTERFACE = {
    "errors": {name: ["__init__"] for name in """BadScene BadWorld BadScript BadSaying BadWalk NoThing NoRow NoMark
               BadInputs NotBare BadName NoButton Taken NoGuard Barred""".split()}
    | {"SeatError": [], "NoLots": [], "OtherScene": [], "Unlike": [], "NothingToUndo": []},
    "scenes": {"Scene": ["__init__", "__eq__"]},
    "worlds": {"World": ["__init__", "__getitem__", "__len__", "__contains__", "__eq__", "marked", "lots", "cut", "form",
                         "renamed"]},
    "scripts": {"Script": ["__init__", "run", "steps", "visited", "after"]},
    "compare": {name: None for name in "parting alike beyond is_within leaving leave_alike hanging".split()},
    "cases": {"cases": None, "case_of": None},
    "sayings": {"Saying": ["__init__", "holds"]} | {name: None for name in "breaking always breach keeps".split()},
    "kept": {"kept_part": None, "left_out": None},
    "walks": {"Walk": ["__init__", "at", "__add__", "__invert__", "__eq__", "__le__", "__lt__", "__ge__", "__gt__", "places",
                       "final", "script"], "walk_parting": None},
    "halls": {"Hall": ["__init__", "world", "__setitem__", "__getitem__", "__contains__", "__len__", "drop", "press",
                       "add_guard", "drop_guard", "guards", "undo", "attempt"]},
}

# For each rule, lines that break it: each must be complained about under the number of the rule.
BREACHES = [
    ("L2", "import sys\n"),
    ("L2", "from .scenes import Scene\n"),
    ("L2", "from seatedtwice.scenes import *\n"),
    ("L2", "from random import choice\n"),
    ("L2", "from itertools import count\n"),
    ("L2", "A = 1\nfrom math import gcd\n"),
    ("L2", "from seatedtwice.nowhere import a\n"),
    ("L3", "A, B = 1, 2\n"),
    ("L3", "A = len('ab')\n"),
    ("L3", "A = 1\nA = 2\n"),
    ("L3", "A = [[1], [2]]\n"),
    ("L3", "for k in 'ab':\n    pass\n"),
    ("L3", "A = {1, 2}\n"),
    ("L4", "def f(x, to=[]):\n    return x\n"),
    ("L4", "def f(x: int):\n    return x\n"),
    ("L4", "def g(x):\n    return x\n\n\n@g\ndef f(x):\n    return x\n"),
    ("L4", "def f():\n    x = 1\n\n    def g():\n        nonlocal x\n        x = 2\n\n    return g\n"),
    ("L5", "class A:\n    def __hash__(self):\n        return 1\n"),
    ("L5", "class A:\n    def __getitem__(self, at):\n        return at\n"),
    ("L5", "def f():\n    class A:\n        pass\n"),
    ("L5", "class A:\n    def f(self):\n        pass\n\n    def f(self):\n        pass\n"),
    ("L5", "class A:\n    def __lt__(self, other):\n        return True\n\n\ndef f(x):\n    return sorted(x)\n"),
    ("L5", "class A:\n    def __lt__(self, other):\n        return True\n\n\ndef f(x):\n    return max([y.n for y in x])\n"),
    ("L5", "class A:\n    def __add__(self, other):\n        self.n = 1\n        return self\n"),
    ("L5", "class A:\n    def __contains__(self, x):\n        self.n[x] = 1\n        return True\n"),
    ("L5", "class A:\n    def __iter__(self):\n        raise TypeError('')\n\n    def __getitem__(self, at):\n"
           "        self.n.pop()\n        return at\n"),
    ("L5", "class A:\n    @property\n    def n(self):\n        return 1\n\n\nclass B:\n    def __init__(self):\n        self.n = 1\n"),
    ("L5", "class A:\n    @property\n    def n(self):\n        self.m += 1\n        return 1\n"),
    ("L5", "class A:\n    def f(self):\n        return NotImplemented\n"),
    ("L5", "class A:\n    def __add__(self, other, more):\n        return 1\n"),
    ("L5", "class A:\n    def __lt__(self, other):\n        return True\n\n    def __gt__(self, other):\n        return True\n"
           "\n\nclass B(A):\n    pass\n"),
    ("L6", "def f(x):\n    try:\n        x()\n    finally:\n        x()\n"),
    ("L6", "def f(x):\n    try:\n        x()\n    finally:\n        if x == 1:\n            x = 2\n"),
    ("L6", "def f(x):\n    try:\n        x()\n    finally:\n        x[0] = 2\n"),
    ("L6", "def f():\n    global A\n"),
    ("L6", "def f(x):\n    x + 1\n"),
    ("L6", "async def f():\n    pass\n"),
    ("L7", "def f(x):\n    return x / 2\n"),
    ("L7", "A = 1.5\n"),
    ("L7", "def f(x):\n    return ...\n"),
    ("L7", "def f(xs):\n    ys = (x for x in xs)\n    return list(ys)\n"),
    ("L7", "def f(x):\n    return f(*x[1:])\n"),
    ("L7", "def f(x):\n    return len(*x)\n"),
    ("L8", "def f(x):\n    return print(x)\n"),
    ("L8", "def f(x):\n    return hash(x)\n"),
    ("L8", "def f(x):\n    return chr(x)\n"),
    ("L10", "def f():\n" + "    pass\n" * 40),
    ("L10", "A = 1\n" + "\n" * 399),
    ("L10", "A = '" + "a" * 116 + "'\n"),
    ("L12", "def f(__x):\n    return __x\n"),
    ("L12", "def f():\n    _wall = 1\n    return _wall\n"),
    ("L12", "def f():\n    for _ in 'ab':\n        return _\n"),
    ("L13", "def f():\n    return [lambda x: 1, lambda x: 2]\n"),
    ("L14", "A = '\xe9'\n"),
    ("L15", "def f(min):\n    return min\n"),
    ("L15", "class Box:\n    pass\n\n\ndef f(Box):\n    return Box\n"),
    ("L15", "def hash(x):\n    return x\n"),
    ("L15", "A = {1: 2}\n\n\ndef f():\n    return A\n"),
    ("L15", "A = [1]\n\n\ndef f():\n    A.append(2)\n"),
    ("L17", "def f(x):\n    return type(x)\n"),
    ("L17", "def f(x):\n    x.elements = 1\n"),
    ("L17", "def f(x):\n    vars = x\n    return vars\n"),
    ("L18", "class A:\n    def __init__(self):\n        self.f = 1\n\n    def f(self):\n        return 1\n"),
    ("L18", "def f(x):\n    x[0].name = 1\n"),
    ("L18", "A = [1]\n\n\ndef f():\n    A[0] = 1\n"),
    ("L18", "def f(x):\n    x().name = 1\n"),
    ("L19", "def f(x):\n    try:\n        x()\n    except Exception:\n        pass\n"),
    ("L19", "def f(x):\n    try:\n        x()\n    except:\n        pass\n"),
    ("L19", "def f(x):\n    raise x\n"),
    ("L19", "def f(x):\n    raise x()\n"),
    ("L20", "def f(x, y):\n    return x is y\n"),
    ("L22", "def f(x):\n    return int(x, base=2)\n"),
    ("L22", "def f(x):\n    return x.split(sep='a')\n"),
    ("L23", "def f(x, y):\n    return zip(x, y)\n"),
    ("L23", "def f(x):\n    return x.keys()\n"),
    ("L23", "def g():\n    yield 1\n\n\ndef f():\n    return g()\n"),
    ("L23", "def g():\n    yield 1\n\n\ndef f():\n    return g\n"),
    ("L23", "def g(x):\n    yield x\n\n\ndef f():\n    return list(g([1]))\n"),
    ("L23", "def g():\n    x = yield 1\n    return x\n"),
    ("L23", "class A:\n    def g(self):\n        yield 1\n\n\ndef g():\n    return 1\n"),
    ("L24", "def f(x):\n    return set(x)\n"),
    ("L24", "def f(x):\n    for k in {1, 2}:\n        x(k)\n"),
    ("L25", "def f(x):\n    return x.encode()\n"),
    ("L25", "def f(x):\n    return x.popitem()\n"),
    ("L25", "class A:\n    def __len__(self):\n        return len([])\n\n\ndef f(x):\n    x.sort()\n"),
    ("L26", "class A:\n    def encode(self):\n        return 1\n"),
    ("L26", "class A:\n    def __init__(self):\n        self.items = []\n"),
    ("L27", "A = '100%'\n"),
    ("L27", "A = '\\x41'\n"),
    ("L27", "def f(x):\n    return 2 ** x\n"),
    ("L28", "class A:\n    def __eq__(self, other):\n        return self.n == other.n\n"),
    ("L28", "class A:\n    def __len__(self):\n        return self.n\n"),
    ("L28", "class A:\n    def __init__(self):\n        return None\n"),
]


def package_texts():
    texts = {}
    for name in sorted(os.listdir(FOLDER)):
        if name.endswith(".py"):
            with open(os.path.join(FOLDER, name), encoding="utf-8") as file:
                texts[name[:-3]] = file.read()
    return texts


class Rules(unittest.TestCase):

    def test_the_package_breaks_none(self):
        self.assertEqual(complaints(package_texts()), [])

    def test_the_folder_holds_nothing_else(self):
        names = [name for name in os.listdir(FOLDER) if name != "__pycache__"]
        self.assertEqual([name for name in names if not name.endswith(".py")], [])
        self.assertIn("__init__.py", names)

    def test_each_breach_is_seen(self):
        for rule, text in BREACHES:
            with self.subTest(rule, text=text):
                found = complaints({"__init__": "", "scenes": "", "here": text})
                self.assertIn(rule, [line.split(" ")[0] for line in found], found)

    def test_files_that_are_named_wrong(self):
        for name in ["Scenes", "test_scenes", "enum", "tests", "len", "a-b", "_low", "law_one"]:
            self.assertTrue(complaints({"__init__": "", name: ""}), name)

    def test_files_that_import_each_other(self):
        texts = {"__init__": "", "one": "from seatedtwice.two import A\n\nB = 1\n",
                 "two": "from seatedtwice.one import B\n\nA = 1\n"}
        self.assertEqual([line[:4] for line in complaints(texts)], ["L16 ", "L16 "])

    def test_plain_code_is_not_complained_about(self):
        text = '"""What it is."""\n\nMOST = 3\n\n\ndef told(names):\n    """Why % stands here."""\n' \
               '    return [name for name in names if len(set(name)) < MOST]\n'
        self.assertEqual(complaints({"__init__": "", "here": text}), [])


class Interface(unittest.TestCase):

    def test_all_is_defined_where_it_is_listed(self):
        texts = package_texts()
        for module, listed in INTERFACE.items():
            source = Source(module, texts[module])
            classes = {node.name: [part.name for part in node.body if isinstance(part, ast.FunctionDef)]
                       for node in source.tree.body if isinstance(node, ast.ClassDef)}
            functions = [node.name for node in source.tree.body if isinstance(node, ast.FunctionDef)]
            for name, methods in listed.items():
                with self.subTest(module, name=name):
                    if methods is None:
                        self.assertIn(name, functions)
                    else:
                        self.assertIn(name, classes)
                        self.assertEqual([method for method in methods if method not in classes[name]], [])


if __name__ == "__main__":
    unittest.main()
