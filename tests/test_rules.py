"""The script that checks the rules of the language finds what it looks for, and nothing in the package."""

import unittest
from pathlib import Path

from tools.rules import faults, package_texts

ROOT = Path(__file__).resolve().parent.parent
LONG = "def told(xs):\n" + "    xs.append(0)\n" * 39

# Methods that end a class: one that changes its object, one that makes it, and one that lets it not be iterated over.
TOLD = "    def told(self, at):\n        self.at = at\n        return at\n"
MADE = "    def __init__(self):\n        self.at = []\n"
ITERATED = "class Box:\n    def __iter__(self):\n        raise TypeError('a')\n\n"
HELD = "class Held:\n    def __init__(self, at):\n        self.at = at\n\n    def __enter__(self):\n        return self.at\n\n"

# Rules, and files that break just them.
BROKEN = (
    ("L2", "A = 0\nfrom labelroads.other import one\n"),
    ("L2", "from .other import one\n"),
    ("L2", "from labelroads import other\n"),
    ("L2", "from collections import deque\n"),
    ("L2", "def told():\n    from labelroads.other import one\n    return one\n"),
    ("L3", "A = 0\nif A:\n    pass\n"),
    ("L3", "A, B = 0, 1\n"),
    ("L3", "A = len('a')\n"),
    ("L3", "A = 0\n'no docstring'\n"),
    ("L4", "def told(a, /):\n    return a\n"),
    ("L4", "@property\ndef told(a):\n    return a\n"),
    ("L5", "class Box:\n    def __hash__(self):\n        return 0\n"),
    ("L5", "def told():\n    class Box:\n        pass\n    return Box()\n"),
    ("L5", "class Box:\n    def __len__(self):\n        return 0\n\n\ndef told(xs):\n    return sum(x for x in xs)\n"),
    ("L6", "def told():\n    global A\n"),
    ("L6", "import sys\n"),
    ("L7", "def told(a):\n    return a / 2\n"),
    ("L7", "A = 1.5\n"),
    ("L7", "def told():\n    ...\n"),
    ("L7", "def told(xs):\n    return (x for x in xs)\n"),
    ("L8", "def told(xs):\n    return map(told, xs)\n"),
    ("L8", "def told(x):\n    return chr(x)\n"),
    ("L10", LONG + "    return xs\n"),
    ("L10", "A = '" + "a" * 115 + "'\n"),
    ("L10", "# a\n" * 400),
    ("L12", "def told(_a):\n    return 0\n"),
    ("L12", "def told(a):\n    return a._b\n"),
    ("L13", "def told(a):\n    return sorted({1, 2, 3, a})\n"),
    ("L14", "# \xe9\n"),
    ("L14", "def told():\n\treturn 0\n"),
    ("L15", "A = 0\nA = 1\n"),
    ("L15", "from labelroads.other import one\n\n\ndef told(one):\n    return one\n"),
    ("L15", "def told(max):\n    return max\n"),
    ("L16", "from labelroads.other import two\n"),
    ("L16", "from labelroads.some import told\n\n\ndef one():\n    return told\n"),
    ("L17", "# a type\n"),
    ("L17", "def told(vars):\n    return vars\n"),
    ("L17", "def told(law):\n    return law\n"),
    ("L18", "class Box:\n    def told(self):\n        self.told = 0\n"),
    ("L19", "def told():\n    try:\n        pass\n    except TypeError:\n        pass\n"),
    ("L19", "def told():\n    try:\n        pass\n    except:\n        pass\n"),
    ("L19", "def told(a):\n    raise a.wrong\n"),
    ("L20", "def told(a):\n    return a is a\n"),
    ("L22", "def told(a):\n    return (len, a)\n"),
    ("L22", "def told(a):\n    return sorted(a, key=repr)\n"),
    ("L22", "def told(a):\n    return sum(a, key=len)\n"),
    ("L22", "def told(a):\n    return int(a, base=7)\n"),
    ("L23", "def told(a):\n    b = a.items()\n    return list(b)\n"),
    ("L23", "def told(a):\n    return zip(a, a)\n"),
    ("L23", "def told(a):\n    return len(a.keys())\n"),
    ("L23", "def told(a):\n    return set(range(a))\n"),
    ("L23", "def told(a):\n    for b in a:\n        a.append(b)\n"),
    ("L23", "def told(a):\n    for b, c in enumerate(a):\n        if c:\n            a[b] = 0\n"),
    ("L23", "def told(a):\n    for b in a.keys():\n        del a[b]\n"),
    ("L24", "def told(a):\n    return set(a)\n"),
    ("L24", "def told(a):\n    return [b for b in {c for c in a}]\n"),
    ("L24", "def told(a):\n    return set(a) == a\n"),
    ("L24", "def told(a):\n    return sum({1, a})\n"),
    ("L24", "def told(a):\n    seen = set()\n    return seen\n"),
    ("L24", "def told(a):\n    seen = set()\n    seen = set(a)\n    return len(seen)\n"),
    ("L24", "def told(a):\n    seen = set(a)\n    return [b for b in seen]\n"),
    ("L24", "def told(a):\n    seen = set(a)\n    seen.update(a)\n    return len(seen)\n"),
    ("L25", "def told(a):\n    return a.isupdated()\n"),
    ("L25", "def told(a):\n    return a.split\n"),
    ("L25", "def told(a):\n    return a.split(sep=a)\n"),
    ("L26", "class Box:\n    def __init__(self):\n        self.items = 0\n"),
    ("L4", "def told(a=[]):\n    return a\n"),
    ("L5", "class Box:\n    def __getitem__(self, at):\n        return at\n"),
    ("L5", ITERATED + "    def __getitem__(self, at, by):\n        return at\n"),
    ("L5", ITERATED + "    def __getitem__(self, at=0):\n        return at\n"),
    ("L5", "class Box:\n    def __iter__(self):\n        return self\n"),
    ("L5", ITERATED + "    def __getitem__(self, at):\n        self.at = at\n        return at\n"),
    ("L5", ITERATED + "    def __getitem__(self, at):\n        return self.told(at)\n\n" + TOLD),
    ("L5", "class Box:\n    @property\n    def many(self):\n        return self.told([])\n\n" + TOLD),
    ("L5", "class Box:\n    @property\n    def many(self):\n        self.at[0] = 1\n        return self.at\n\n" + MADE),
    ("L5", "class Box:\n    @property\n    def many(self):\n        self.at.append(1)\n        return self.at\n\n" + MADE),
    ("L5", "class Box:\n    @property\n    def many(self):\n        return 0\n\n\ndef told(box):\n    box.many = 1\n"),
    ("L5", "class Box:\n    @property\n    def many(self):\n        return 0\n\n\ndef told(box):\n    box.many()\n"),
    ("L5", "class Box:\n    @property\n    def many(self, by):\n        return by\n"),
    ("L5", "class Box:\n    def __eq__(self, other):\n        other.at = self\n        return True\n\n" + MADE),
    ("L6", "def told(a):\n    with a or told:\n        return a\n"),
    ("L6", "def told(a):\n    with a as (b, c):\n        return b\n"),
    ("L6", "class Box:\n    def __exit__(self, kind, value):\n        pass\n"),
    ("L6", "class Box:\n    def __exit__(self, kind, value, trace):\n        len(kind)\n"),
    ("L6", "class Box:\n    def __exit__(self, *told):\n        self.at = len(told)\n"),
    ("L6", "class Box:\n    def __exit__(self, *told):\n        return True\n"),
    ("L15", "A = {'a': [1]}\n"),
    ("L15", "A = [1]\n\n\ndef told():\n    A.append(2)\n"),
    ("L15", "A = [1]\n\n\ndef told():\n    A[0] = 2\n"),
    ("L15", "A = {'a': 1}\n\n\ndef told():\n    return A\n"),
    ("L15", "A = {'a': 1}\n\n\ndef told(a):\n    return a(A)\n"),
    ("L18", "class Box:\n    def told(self):\n        return 0\n\n    def told(self):\n        return 1\n"),
    ("L28", "class Box:\n    def __init__(self):\n        return None\n"),
    ("L28", "class Box:\n    def __len__(self):\n        return self.at\n\n" + MADE),
    ("L28", "class Box:\n    def __len__(self):\n        if self:\n            return 0\n"),
    ("L27", "A = 'a%b'\n"),
    ("L27", "def told(n):\n    return 2 ** n\n"),
    ("L27", "A = 'a\\t\\x00'\n"),
    ("L27", "A = '__odd__'\n"),
)
GOOD = (
    "",
    '"""Docstring."""\n\nfrom labelroads.other import one\n\nA = (1, "any")\n\n\ndef told(a):\n    return one(a)\n',
    LONG,
    "# a\n" * 399,
    "A = '" + "a" * 114 + "'\n",
    "class Wrong(ValueError):\n    def __init__(self, at):\n        self.at = at\n\n\ndef told(a):\n    raise Wrong(a)\n",
    "def told(a):\n    return a is None or sum(x for x in a) // 2 ** 3\n",
    "def told(a):\n    return sorted(set(a) - {b for b in a}, reverse=True) + sorted(a, key=len)\n",
    "def told(a):\n    return a in {1, 2} or len(set(a)) == 2 or set(a) != {1, 2}\n",
    "def told(a):\n    seen = set()\n    seen.add(a)\n    return a in seen and len(seen) > 1 and sorted(seen)\n",
    "def told(a):\n    for b, c in zip(list(a), a[1:]):\n        d = list(range(b))\n        d.append(c)\n    return a\n",
    "def told(a):\n    for b in list(a):\n        a.append(b)\n    return max(a.values(), default=0)\n",
    "A = {'a': (1, 2), 'b': ()}\n\n\ndef told(a):\n    return a in A and len(A) and A[a] == A.get(a)\n",
    "def told(a, b=0, c=(1, 'a'), d=None):\n    return a\n",
    ITERATED + "    def __getitem__(self, at):\n        rows = [at]\n        rows.append(at)\n        return rows\n",
    ITERATED + "    def __len__(self):\n        return len(self.at)\n\n" + TOLD + "\n" + MADE,
    "class Box:\n    @property\n    def many(self):\n        return self.at\n\n" + MADE,
    HELD + "    def __exit__(self, kind, value, trace):\n        self.at = kind\n\n\n"
    "def told(a):\n    with Held(a) as b:\n        return b\n",
    "def told(a):\n    return min([b for b, c in a.items()], key=lambda b: -b) + sum(list(a.keys()), start=1)\n",
)


def package(text):
    return {
        "labelroads/__init__.py": "",
        "labelroads/other.py": "def one(a):\n    return a\n",
        "labelroads/some.py": text,
    }


class Rules(unittest.TestCase):
    def test_the_package_has_no_fault(self):
        self.assertEqual(faults(package_texts(ROOT)), [])

    def test_all_files_are_looked_at(self):
        looked = set(package_texts(ROOT))
        found = {path.relative_to(ROOT).as_posix() for path in (ROOT / "labelroads").rglob("*.py")}
        self.assertEqual(looked, found)
        self.assertIn("labelroads/nets.py", looked)

    def test_broken_rules_are_told(self):
        for rule, text in BROKEN:
            told = {line.split(": ")[1] for line in faults(package(text))}
            self.assertIn(rule, told, text)

    def test_what_breaks_none(self):
        for text in GOOD:
            self.assertEqual(faults(package(text)), [], text)

    def test_names_of_files(self):
        for name in ("Nets.py", "nets.txt", "test_nets.py", "len.py", "tests.py", "inner/nets.py", "a-b.py"):
            self.assertNotEqual(faults({**package(""), f"labelroads/{name}": ""}), [], name)

    def test_files_that_import_from_each_other(self):
        files = {
            **package("from labelroads.third import two\n\n\ndef told(a):\n    return two(a)\n"),
            "labelroads/third.py": "from labelroads.some import told\n\n\ndef two(a):\n    return told(a)\n",
        }
        self.assertEqual({line.split(": ")[1] for line in faults(files)}, {"L16"})


if __name__ == "__main__":
    unittest.main()
