"""The package's files, held against LANGUAGE.md; and that what holds them sees what is outside it."""

import pathlib
import unittest

from tests.language import problems

PACKAGE = pathlib.Path(__file__).resolve().parent.parent / "chairvote"
INIT = '"""A package."""\n'
GOOD = '''"""A good file."""

from chairvote.b import Other

LIMIT = 3
WORDS = ["a", "b"]
KINDS = {"a": (1, 2)}


class Wrong(ValueError):
    pass


class Thing(Other):
    def __init__(self, parts):
        Other.__init__(self)
        self.parts = list(parts)

    def told(self):
        return list(self.parts)

    def shown(self, name, deep=False):
        if name not in WORDS or deep is True:
            raise Wrong(name)
        return f"{name} {LIMIT}"


def number_of(text):
    try:
        return int(text)
    except ValueError:
        return None


def count(parts):
    total = 0
    for place, part in enumerate(parts, start=1):
        if part in (1, 2) and part not in {4, 5}:
            total += place
    while total > 10 ** 3:
        total = total // 2
    kept = sorted(set(parts) - set([3]))
    return max([x for x in kept if x > total], default=0) + sum(KINDS["a"]) + len(WORDS)


def ordered(pairs):
    return sorted(pairs.items(), key=lambda pair: pair[1], reverse=True)
'''
OTHER = '"""Another file."""\n\n\nclass Other:\n    def __init__(self):\n        self.kept = {}\n'

# For each rule, files that break it. Each is put behind the docstring of a file of its own.
BAD = (
    ("L2", "from os import path"),
    ("L2", "from .b import Other"),
    ("L2", "from chairvote.b import *"),
    ("L2", "from chairvote.b import Other as Another"),
    ("L2", "def f():\n    from chairvote.b import Other\n    return Other()"),
    ("L16", "import sys"),
    ("L16", "from chairvote.b import Lacking"),
    ("L16", "from chairvote.lacking import Other"),
    ("L16", "from chairvote.a import f\n\n\ndef g():\n    return f()"),
    ("L3", "if True:\n    X = 1"),
    ("L3", "X = len('abc')"),
    ("L3", "for k in (1, 2):\n    pass"),
    ("L4", "def f(*parts):\n    return 1"),
    ("L4", "def f(**parts):\n    return 1"),
    ("L4", "def f(a, *, b):\n    return 1"),
    ("L4", "def f(a, /, b):\n    return 1"),
    ("L4", "def f(a=len('b')):\n    return 1"),
    ("L4", "def g(h):\n    return h\n\n\n@g\ndef f(a):\n    return 1"),
    ("L5", "class A:\n    x = 1"),
    ("L5", "class B:\n    pass\n\n\nclass C:\n    pass\n\n\nclass A(B, C):\n    pass"),
    ("L5", "class A(dict):\n    pass"),
    ("L6", "def f(a):\n    with a:\n        pass"),
    ("L6", "def f(a):\n    match a:\n        case 1:\n            pass"),
    ("L6", "def f(a):\n    del a"),
    ("L6", "X = 1\n\n\ndef f(a):\n    global X"),
    ("L6", "def f(a):\n    assert a"),
    ("L6", "def f(a):\n    try:\n        a()\n    finally:\n        a()"),
    ("L6", "def f(a):\n    for b in a:\n        pass\n    else:\n        pass"),
    ("L6", "def f(a):\n    while a:\n        pass\n    else:\n        pass"),
    ("L6", "def f(a):\n    b = c = a\n    return b"),
    ("L6", "def f(a):\n    a == 1"),
    ("L6", "def f(a):\n    'A text by itself.'\n    return a"),
    ("L6", "def f(a):\n    try:\n        return a()\n    except:\n        return 1"),
    ("L6", "async def f(a):\n    return 1"),
    ("L7", "def f(a):\n    yield a"),
    ("L7", "X = 1.5"),
    ("L7", "X = b'a'"),
    ("L7", "def f(a):\n    return a / 2"),
    ("L7", "def f(a):\n    a /= 2\n    return a"),
    ("L7", "def f(a):\n    return {b for b in a}"),
    ("L7", "def f(a):\n    return {b: 1 for b in a}"),
    ("L7", "def f(a):\n    return sum(b for b in a)"),
    ("L7", "def f(a):\n    return [b for c in a for b in c]"),
    ("L7", "def f(a):\n    return [b for b in a if b if a]"),
    ("L7", "def f(a):\n    return (b := a)"),
    ("L7", "def f(a):\n    return [*a]"),
    ("L7", "def f(a):\n    return {**a}"),
    ("L7", "def f(a):\n    return f'{a:3}'"),
    ("L7", "def f(a):\n    return f'{a.b}'"),
    ("L8", "def f(a):\n    return print(a)"),
    ("L8", "def f(a):\n    return hash(a)"),
    ("L8", "def f(a):\n    return unknown(a)"),
    ("L8", "def f(a):\n    return chr(a)"),
    ("L10", "def f(a):\n" + "    a = a + 1\n" * 39 + "    return a"),
    ("L10", "X = 1\n" + "# more\n" * 400),
    ("L10", "X = 1  # " + "x" * 120),
    ("L10", "def f(a):\n\treturn a"),
    ("L12", "def f(a):\n    _b = a\n    return a"),
    ("L12", "def _f(a):\n    return a"),
    ("L12", "def f(a):\n    for _ in a:\n        pass"),
    ("L12", "def f(a):\n    return a.__dict__"),
    ("L12", "class A:\n    def __init__(self):\n        self._b = 1"),
    ("L13", "def f(a):\n    return a(lambda x: x, lambda x: 1)"),
    ("L14", "X = 1  # \u00e9"),
    ("L15", "def f(a):\n    return a\n\n\ndef f(b):\n    return b"),
    ("L15", "def f(a):\n    class B:\n        pass\n    return B()"),
    ("L15", "X = [1, [2]]"),
    ("L15", "X = [1]\n\n\ndef f(a):\n    X.append(a)"),
    ("L15", "X = [1]\n\n\ndef f(a):\n    X[0] = a"),
    ("L15", "X = [1]\n\n\ndef f():\n    return X"),
    ("L15", "def f(id):\n    return 1"),
    ("L15", "def f(a):\n    min = a\n    return a"),
    ("L15", "def f(a):\n    return [next for next in a]"),
    ("L15", "from chairvote.b import Other\n\n\ndef f(Other):\n    return 1"),
    ("L15", "class A:\n    pass\n\n\ndef f(A):\n    return 1"),
    ("L17", "def f(a):\n    return getattr(a, 'b')"),
    ("L17", "def f(a):\n    return a.mro()"),
    ("L17", "def f(a):\n    return a.f_back"),
    ("L17", "class A:\n    def register(self):\n        return 1"),
    ("L17", "X = 'the type of it'"),
    ("L17", "X = 1  # a Protocol"),
    ("L17", "X = 1  # dataclasses"),
    ("L18", "class A:\n    def f(self):\n        return 1\n\n    def f(self):\n        return 2"),
    ("L18", "class A:\n    def f(self):\n        return 1\n\n\nclass B:\n    def __init__(self):\n        self.f = 1"),
    ("L18", "class A(StopIteration):\n    pass"),
    ("L18", "class A:\n    pass\n\n\ndef f():\n    return [A]"),
    ("L18", "def f():\n    return ValueError"),
    ("L19", "def f(a):\n    try:\n        return a[0]\n    except Exception:\n        return 1"),
    ("L19", "def f(a):\n    try:\n        return a[0]\n    except TypeError:\n        return 1"),
    ("L19", "def f(a):\n    try:\n        return a()\n    except ValueError:\n        return 1"),
    ("L19", "def f(a):\n    try:\n        return int(a)\n    except IndexError:\n        return 1"),
    ("L19", "def f(a):\n    try:\n        return a[1:]\n    except IndexError:\n        return 1"),
    ("L19", "def f(a):\n    raise a"),
    ("L20", "def f(a):\n    return a is 1"),
    ("L20", "def f(a, b):\n    return a is not b"),
    ("L21", "def f(a: int):\n    return a"),
    ("L21", "def f(a) -> int:\n    return a"),
    ("L21", "def f(a):\n    b: int = a\n    return b"),
    ("L22", "def f(a):\n    return a(len)"),
    ("L22", "def f(a):\n    return int(a, base=3)"),
    ("L22", "def f(a):\n    return a.split(sep='b')"),
    ("L22", "def f(a):\n    return sorted(a, key=list)"),
    ("L23", "def f(a):\n    b = range(a)\n    return b"),
    ("L23", "def f(a):\n    return a.items()"),
    ("L23", "def f(a):\n    return max(zip(a, a), 1)"),
    ("L23", "def f(a):\n    for b in a:\n        a.append(b)"),
    ("L23", "def f(a):\n    for k, b in enumerate(a):\n        a[k] = b"),
    ("L23", "def f(a):\n    for k, b in a.items():\n        a.pop(k)"),
    ("L24", "def f(a):\n    b = set(a)\n    return b"),
    ("L24", "def f(a):\n    for b in set(a):\n        return b"),
    ("L24", "def f(a):\n    return sorted(set(a), key=len)"),
    ("L24", "def f(a):\n    return {a}"),
    ("L25", "def f(a):\n    return a.sort()"),
    ("L25", "def f(a):\n    return a.casefold()"),
    ("L25", "def f(a):\n    b = a.append\n    return b"),
    ("L26", "class A:\n    def sort(self):\n        return 1"),
    ("L26", "class A:\n    def __init__(self):\n        self.items = 1"),
    ("L26", "class A:\n    def __init__(self):\n        self.args = 1"),
    ("L27", "def f(a):\n    return 2 ** a"),
    ("L27", "def f(a):\n    return 2 ** 65"),
    ("L27", "X = '50 %'"),
    ("L27", "X = '\\x41'"),
    ("L27", "X = " + "9" * 901),
    ("L28", "class A:\n    def __init__(self):\n        return None"),
    ("L28", "class A:\n    def __eq__(self, other):\n        return True"),
)
BAD_FILES = (
    ("L1", {"__init__.py": INIT, "words.txt": "a"}),
    ("L1", {"__init__.py": INIT, "Upper.py": INIT}),
    ("L14", {"a.py": INIT}),
    ("L14", {"__init__.py": INIT, "tests.py": INIT}),
    ("L14", {"__init__.py": INIT, "test_a.py": INIT}),
    ("L14", {"__init__.py": INIT, "range.py": INIT}),
    ("L14", {"__init__.py": INIT, "enum.py": INIT}),
    ("L12", {"__init__.py": INIT, "_a.py": INIT}),
    ("L16", {
        "__init__.py": INIT,
        "a.py": "from chairvote.b import g\n\n\ndef f():\n    return g()\n",
        "b.py": "from chairvote.c import h\n\n\ndef g():\n    return h()\n",
        "c.py": "from chairvote.a import f\n\n\ndef h():\n    return f()\n",
    }),
    ("L16", {
        "__init__.py": INIT,
        "a.py": "from chairvote.b import g\n\n\ndef f():\n    return g()\n",
        "b.py": "from chairvote.c import g\n",
        "c.py": "def g():\n    return 1\n",
    }),
    ("L18", {
        "__init__.py": INIT,
        "a.py": "class A:\n    def f(self):\n        return 1\n",
        "b.py": "class B:\n    def __init__(self):\n        self.f = 1\n",
    }),
)


def package_files():
    files = [path for path in PACKAGE.rglob("*") if path.is_file() and "__pycache__" not in path.parts]
    return {path.relative_to(PACKAGE).as_posix(): path.read_text(encoding="utf-8") for path in files}


class LanguageTest(unittest.TestCase):
    def test_the_package_keeps_to_the_rules(self):
        files = package_files()
        for name in (
            "__init__", "errors", "rolls", "rows", "shelves", "books", "seats", "hands", "halls", "rules", "lists",
            "ballots",
        ):
            self.assertIn(name + ".py", files)
        self.assertEqual(problems(files), [])

    def test_no_folder_lies_in_the_package_but_those_with_an_init(self):
        for path in PACKAGE.rglob("*"):
            if path.is_dir() and path.name != "__pycache__":
                self.assertTrue((path / "__init__.py").is_file(), path)

    def test_a_good_file_is_let_through(self):
        self.assertEqual(problems({"__init__.py": INIT, "a.py": GOOD, "b.py": OTHER}), [])

    def test_each_rule_is_seen_to_be_broken(self):
        for rule, text in BAD:
            with self.subTest(rule=rule, text=text[:200]):
                files = {"__init__.py": INIT, "a.py": '"""A file."""\n\n' + text + "\n", "b.py": OTHER}
                self.assertIn(rule, [found[0] for found in problems(files)])

    def test_rules_on_files_are_seen_to_be_broken(self):
        for rule, files in BAD_FILES:
            with self.subTest(rule=rule, files=sorted(files)):
                self.assertIn(rule, [found[0] for found in problems(files)])


if __name__ == "__main__":
    unittest.main()
