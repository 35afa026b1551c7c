"""The package's own files keep to the part of Python that the program is written in."""

import re
import unittest
from pathlib import Path

import manydeeds
from language import faults

FOLDER = Path(manydeeds.__file__).parent


class TheFiles(unittest.TestCase):
    def test_only_python_files_with_plain_names(self):
        for path in FOLDER.iterdir():
            if path.name != "__pycache__":
                self.assertRegex(path.name, re.compile(r"^(__init__|__main__|[a-z][a-z0-9_]*)\.py$"))

    def test_each_keeps_to_the_rules(self):
        for path in sorted(FOLDER.glob("*.py")):
            with self.subTest(path.name):
                self.assertEqual(faults(path.read_bytes().decode("utf-8")), [])

    def test_no_name_is_a_method_and_a_value(self):
        text = "\n".join(path.read_text() for path in FOLDER.glob("*.py"))
        methods = set(re.findall(r"^    def (\w+)\(self", text, re.MULTILINE))
        values = set(re.findall(r"\bself\.(\w+) = ", text))
        self.assertEqual(methods & values, set())


class WhatIsSeen(unittest.TestCase):
    def test_clean(self):
        self.assertEqual(faults('"""A."""\n\n\ndef one(xs):\n    return [x for x in xs if x]\n'), [])

    def test_faults(self):
        for text in (
                "import os\n", "from manydeeds import kinds\n", "from manydeeds.kinds import *\n",
                "from .kinds import Kinds\n", "print(1)\n", "A = 1\nA = 2\n",
                "def f(*a):\n    return a\n", "def f(a):\n    yield a\n", "def f(a):\n    return a / 2\n",
                "def f(a):\n    return {b for b in a}\n", "def f(a):\n    return all(b for b in a)\n",
                "def f(a):\n    return [b for c in a for b in c]\n", "def f(a):\n    a = b = 1\n",
                "def f(a):\n    return a is 1\n", "def f(a):\n    a.sort()\n", "def f(_):\n    return 1\n",
                "def f(a):\n    return getattr(a, 'b')\n", "def f(a):\n    return map(len, a)\n",
                "def f(a):\n    return 1.5\n", "def f(a):\n    return '%'\n", "def f(id):\n    return id\n",
                "def f(a):\n    assert a\n", "def f(a):\n    return f'{a + 1}'\n", "# the type\n",
                "def f(a):\n\treturn a\n", "class A:\n    b = 1\n", "class A(B, C):\n    pass\n",
                "def f(a):\n    try:\n        a()\n    except Exception:\n        pass\n",
                "def f(a: int):\n    return a\n", "# " + "x" * 120 + "\n", "# \u00e9\n",
                "def f(a):\n" + "    a()\n" * 40, "def f(a):\n    return chr(a)\n",
                "def f(a):\n    b = range(a)\n    return [c for c in b]\n", "def f(a):\n    return a.items()\n",
                "def f(a):\n    return zip([1], range(a))\n", "def f(a):\n    return list(zip([1], range(a)))\n",
                "from manydeeds.calls import told\n\n\ndef f(told):\n    return told\n",
                "from manydeeds.calls import told\n\n\ndef f(a):\n    told = a\n    return told\n"):
            self.assertNotEqual(faults(text), [], text)


if __name__ == "__main__":
    unittest.main()
