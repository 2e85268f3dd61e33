"""The package's files keep to the rules, and the looking at them finds what breaks a rule."""

import unittest
from pathlib import Path

from language import faults_of

FOLDER = Path(__file__).resolve().parent.parent / "worldsay"

GOOD = '''"""A file that keeps to the rules."""

from worldsay.other import Kept, TABLE, NoThing

MOST = 4
NAMES = {"a": (1, 2), "b": (3, -4)}


def reader(rows):
    """The numbers of some rows."""
    found = []
    for place, row in enumerate(rows):
        try:
            number = int(row)
        except ValueError:
            raise NoThing(place) from None
        if number not in TABLE and len(found) < MOST:
            found.append(NAMES.get(row, (number, place)))
    return sorted(set(found))


def named(one):
    """A kept thing's words."""
    kept = Kept(one)
    if isinstance(kept, Kept) and not isinstance(one, (int, str)):
        words = kept.words
        return f"{words} of {one!r}"
    return max([len(word) for word in kept.all_words() if word is not None], key=abs, default=0)
'''

OTHER = '''"""Another file."""

TABLE = [1, 2, 3]


class NoThing(ValueError):
    """A refusal."""

    def __init__(self, place):
        self.place = place


class Kept:
    """Something kept."""

    def __init__(self, words):
        self.words = words

    def all_words(self):
        return list(self.words)
'''

# For each rule, rows that break it: as a whole file.
BAD = {
    "L2": ("from .other import Kept\n\nX = Kept\n", "from json import loads\n",
           "from worldsay.other import *\n", "from worldsay.none import Kept\n",
           "def f():\n    from worldsay.other import Kept\n    return Kept(1)\n",
           "X = 1\nfrom worldsay.other import Kept\n\n\ndef f():\n    return Kept(X)\n"),
    "L3": ("X = len('a')\n", "print(1)\n", "X = 1 + 1\n", "for x in (1, 2):\n    pass\n", "X = [y for y in (1, 2)]\n",
           "if __name__ == '__main__':\n    pass\n", "X, Y = 1, 2\n"),
    "L4": ("def f(*rest):\n    return rest\n", "def f(**rest):\n    return rest\n", "def f(*, a):\n    return a\n",
           "def f(a=len('x')):\n    return a\n", "def g(a):\n    return a\n\n\n@g\ndef f():\n    pass\n",
           "def f():\n    return lambda *rest: rest\n"),
    "L5": ("class A:\n    x = 1\n", "class B:\n    pass\n\n\nclass C:\n    pass\n\n\nclass A(B, C):\n    pass\n",
           "class A(dict):\n    pass\n", "class A(metaclass=int):\n    pass\n"),
    "L6": ("def f(a):\n    with a:\n        pass\n", "def f(a):\n    assert a\n", "def f(a):\n    del a\n",
           "def f(a):\n    a = b = 1\n    return a + b\n", "def f(a):\n    x, y = a\n    return x + y\n",
           "def f(a):\n    for b in a:\n        f(b)\n    else:\n        f(1)\n",
           "def f(a):\n    try:\n        f(a)\n    except KeyError:\n        pass\n    finally:\n        pass\n",
           "def f(a):\n    a\n", "def f():\n    x: int = 1\n    return x\n", "def f(a):\n    yield a\n",
           "def f():\n    global X\n    X = 1\n    return X\n", "def f():\n    'told'\n    'more'\n",
           "def f(a):\n    match a:\n        case 1:\n            pass\n", "async def f():\n    pass\n"),
    "L7": ("X = 1.5\n", "X = b'a'\n", "def f(a):\n    return a / 2\n", "def f(a):\n    return {b for b in a}\n",
           "def f(a):\n    return {b: 1 for b in a}\n", "def f(a):\n    return sum(b for b in a)\n",
           "def f(a):\n    return [b for c in a for b in c]\n", "def f(a):\n    return [b for b in a if b if b > 1]\n",
           "def f(a):\n    return (b := a) + b\n", "def f(a):\n    return f(*a)\n", "def f(a):\n    return f'{a + 1}'\n",
           "def f(a):\n    return f'{a:3}'\n", "def f(a):\n    return f'{a!s}'\n", "def f(a):\n    return ...\n",
           "def f(a):\n    return {**a}\n", "X = {1}\n"),
    "L8": ("def f(a):\n    return map(f, a)\n", "def f(a):\n    print(a)\n", "def f():\n    return object()\n",
           "def f(a):\n    return a.__class__\n", "def f(a):\n    return a.format(1)\n", "def f(a):\n    return chr(a)\n",
           "def len(a):\n    return a\n", "__secret = 1\n", "def f(a):\n    return iter(a)\n"),
    "L10": ("X = '" + "a" * 120 + "'\n", "def f():\n\treturn 1\n", "X = 1\n" + "\n" * 400,
            "def f():\n" + "    pass\n" * 40),
    "L12": ("_x = 1\n", "def f():\n    for _ in (1, 2):\n        f()\n", "def f(a):\n    return a._b\n"),
    "L13": ("def f():\n    x = {1, 2, 3}\n    return 1 in x\n",
            "def f(a):\n    return [lambda x: x, lambda x: a]\n"),
    "L14": ("X = '\u00e4'\n", "# \u2026\nX = 1\n"),
    "L15": ("X = 1\nX = 2\n", "def f():\n    class A:\n        pass\n    return A()\n", "X = [[1]]\n", "X = {'a': [1]}\n",
            "X = [1]\n\n\ndef f():\n    X.append(2)\n", "X = [1]\n\n\ndef f():\n    X[0] = 2\n",
            "X = {'a': 1}\n\n\ndef f():\n    return X\n", "def f(id):\n    return id\n", "def f(a):\n    max = a\n    return max\n",
            "from worldsay.other import TABLE\n\n\ndef f():\n    return f(TABLE)\n",
            "from worldsay.other import Kept\n\n\ndef f(Kept):\n    return Kept\n"),
    "L16": ("import json\n", "import sys\n\n\ndef f():\n    return sys\n", "from worldsay.good import Kept\n\n\ndef f():\n    return Kept(1)\n",
            "from worldsay.other import nothing\n\n\ndef f():\n    return nothing\n",
            "from worldsay.drawn import g\n\n\ndef f():\n    return g()\n"),
    "L17": ("# a type\nX = 1\n", "X = 'an Enum'\n", "def f(my_dataclass):\n    return my_dataclass\n",
            "def f(a):\n    return a.register(1)\n", "def f(a):\n    return a.f_back\n", "def vars(a):\n    return a\n",
            "def f(a):\n    return dir(a)\n", "def f():\n    return __name__\n", "def f(elements):\n    return elements\n"),
    "L18": ("class A:\n    pass\n\n\ndef f():\n    return A\n", "class A:\n    pass\n\n\ndef f():\n    return [A]\n",
            "class A:\n    pass\n\n\ndef f():\n    A.b = 1\n", "class A(StopIteration):\n    pass\n",
            "class A:\n    def b(self):\n        return 1\n\n    def b(self):\n        return 2\n",
            "class A:\n    def words(self):\n        return 1\n", "def f(a):\n    a.b.c = 1\n"),
    "L19": ("def f(a):\n    try:\n        return f(a)\n    except ValueError:\n        return 1\n",
            "def f(a):\n    try:\n        return a[f(a)]\n    except IndexError:\n        return 1\n",
            "def f(a):\n    try:\n        return f(a)\n    except Exception:\n        return 1\n",
            "def f(a):\n    try:\n        return f(a)\n    except:\n        return 1\n",
            "def f(a):\n    try:\n        return int(a) * 2\n    except (KeyError, ValueError):\n        return 1\n",
            "def f(a):\n    raise a\n", "def f():\n    raise ValueError\n", "def f():\n    raise\n"),
    "L20": ("def f(a):\n    return a is f\n", "def f(a):\n    return a is not 1\n"),
    "L21": ("def f(a: int):\n    return a\n", "def f(a) -> int:\n    return a\n"),
    "L22": ("def f(a):\n    return isinstance(a, set)\n", "def f(a, b):\n    return isinstance(a, b)\n",
            "def f(a):\n    b = len\n    return b(a)\n", "def f(a):\n    return sorted(a, key=repr)\n",
            "def f(a):\n    return int(a, base=2)\n", "def f(a, b):\n    return sorted(a, reverse=b)\n",
            "def f(a):\n    return a.split(sep=' ')\n"),
    "L23": ("def f(a):\n    b = zip(a, a)\n    return list(b)\n", "def f(a):\n    return a.items()\n",
            "def f(a):\n    return range(a)\n", "def f(a):\n    return len(range(a))\n",
            "def f(a):\n    for b in a:\n        a.append(b)\n",
            "def f(a):\n    for k, b in enumerate(a):\n        a[k] = b\n",
            "def f(a):\n    for k, b in a.items():\n        a.pop(k)\n        f(b)\n",
            "def f(a):\n    b = []\n    b.extend(reversed(a))\n    return b\n"),
    "L24": ("def f(a):\n    b = set(a)\n    return 1 in b\n", "def f(a):\n    for b in set(a):\n        f(b)\n",
            "def f(a):\n    return sorted(set(a), key=len)\n", "def f(a, b):\n    return set(a) == b\n",
            "def f(a):\n    return list(set(a) - set(a))\n", "def f(a, b):\n    return set(a) <= set(b)\n"),
    "L25": ("def f(a):\n    a.sort()\n", "def f(a):\n    return a.title()\n", "def f(a):\n    return f(a.append)\n",
            "def f(a):\n    return a.unknown\n", "def f(a):\n    return a.union(a)\n"),
    "L26": ("class A:\n    def title(self):\n        return 1\n",
            "class A:\n    def __init__(self):\n        self.items = 1\n",
            "class A:\n    def __init__(self):\n        self.real = 1\n"),
    "L27": ("def f(a):\n    return 2 ** a\n", "def f(a):\n    return a ** 65\n", "X = 'a%'\n", "X = 'a\\x41'\n",
            "X = r'a'\n", "X = " + "\\\n".join(["'a' + " + "1" * 901]) + "\n", "def f(a):\n    return f'\\u0041{a}'\n"),
    "L28": ("class A:\n    def __init__(self):\n        return None\n",
            "class A:\n    def __len__(self):\n        return self.place\n",
            "class A:\n    def __eq__(self, other):\n        self.place = 1\n        return other is None\n",
            "class A:\n    def __repr__(self):\n        return self.place\n"),
    "unused": ("from worldsay.other import Kept\n", "def f():\n    x = 1\n", "def f(a):\n    return 1\n"),
}


def texts_with(text):
    """A small package of good files, with one more."""
    drawn = '"""Draws from more."""\n\nfrom worldsay.more import f\n\n\ndef g():\n    return f()\n'
    texts = {"__init__.py": "", "other.py": OTHER, "good.py": GOOD, "more.py": text}
    if "worldsay.drawn" in text:
        texts["drawn.py"] = drawn
    return texts


class LanguageTest(unittest.TestCase):
    def test_package_keeps_to_the_rules(self):
        texts = {path.name: path.read_text(encoding="utf-8") for path in FOLDER.glob("*.py")}
        self.assertIn("errors.py", texts)
        self.assertEqual(faults_of(texts), [])

    def test_folder_holds_python_files_alone(self):
        names = [path.name for path in FOLDER.iterdir() if path.name != "__pycache__"]
        self.assertEqual([name for name in names if not name.endswith(".py")], [])
        self.assertIn("__init__.py", names)

    def test_good_files_have_no_fault(self):
        self.assertEqual(faults_of(texts_with("X = 1\n")), [])

    def test_bad_rows_are_found(self):
        for rule, samples in BAD.items():
            for sample in samples:
                with self.subTest(rule=rule, sample=sample[:200]):
                    rules = [fault[0] for fault in faults_of(texts_with(sample)) if fault[1] in ("more.py", "drawn.py")]
                    self.assertIn(rule, rules)

    def test_bad_file_names_are_found(self):
        for name, rule in (("test_a.py", "L14"), ("len.py", "L14"), ("tests.py", "L14"), ("Upper.py", "L1"),
                           ("a-b.py", "L1"), ("enum.py", "L14"), ("filter.py", "L14")):
            with self.subTest(name=name):
                self.assertIn(rule, [fault[0] for fault in faults_of({"__init__.py": "", name: ""})])

    def test_init_binds_no_name_of_a_file(self):
        self.assertIn("L16", [fault[0] for fault in faults_of({"__init__.py": "other = 1\n", "other.py": ""})])

    def test_main_may_read_and_print(self):
        text = 'import sys\n\n\ndef run():\n    print(sys.stdin.read())\n\n\nif __name__ == "__main__":\n    run()\n'
        self.assertEqual(faults_of({"__init__.py": "", "__main__.py": text}), [])


if __name__ == "__main__":
    unittest.main()
