"""The package keeps to the part of Python that LANGUAGE.md tells."""

import pathlib
import unittest

from tests.language import FILE_NAMES_OUT, calls_between, drawn_from, faults

PACKAGE = pathlib.Path(__file__).resolve().parent.parent / "halfseen"
HEAD = '"""A file."""\n\n\n'

WRONG = [
    ("L2", "from .errors import BadWorks\n"),
    ("L3", "print(1)\n"),
    ("L3", "for x in (1, 2):\n    pass\n"),
    ("L4", "def f(*rest):\n    return rest\n"),
    ("L5", "class A:\n    x = 1\n"),
    ("L6", "def f(x):\n    assert x\n"),
    ("L6", "def f(x):\n    a = b = x\n    return a + b\n"),
    ("L7", "def f(x):\n    return x / 2\n"),
    ("L7", "def f(x):\n    return 0.5\n"),
    ("L7", "def f(x):\n    return {y: 1 for y in x}\n"),
    ("L7", "def f(x):\n    return all(y for y in x)\n"),
    ("L8", "def f(x):\n    return map(f, x)\n"),
    ("L10", "def f(x):\n" + "    x = x + 1\n" * 40),
    ("L10", "# " + "x" * 120 + "\n"),
    ("L12", "def f(x):\n    _y = x\n"),
    ("L14", "# \u00e4\n"),
    ("L14", "def f(x):\n\treturn x\n"),
    ("L15", "def f(x):\n    hash = x\n"),
    ("L15", "a = 1\na = 2\n"),
    ("L15", "class A:\n    pass\n\n\ndef f(A):\n    return A\n"),
    ("L15", "from halfseen.works import checked\n\n\ndef f(x):\n    checked = x\n    return checked\n"),
    ("L17", "# the type of it\n"),
    ("L19", "def f(x):\n    try:\n        return x\n    except Exception:\n        return 1\n"),
    ("L20", "def f(x):\n    return x is f\n"),
    ("L21", "def f(x: int):\n    return x\n"),
    ("L22", "def f(x):\n    return int(x, base=2)\n"),
    ("L23", "def f(x):\n    return range(x)\n"),
    ("L23", "def f(x):\n    y = zip(x, x)\n    return list(y)\n"),
    ("L23", "def f(x):\n    return list(zip(x, x.items()))\n"),
    ("L23", "def f(x):\n    for y in x:\n        x.append(y)\n"),
    ("L23", "def f(x):\n    for k, y in enumerate(x):\n        x[k] = y\n"),
    ("L23", "def f(x):\n    for k, y in x.items():\n        x.pop(k)\n"),
    ("L24", "def f(x):\n    return set(x)\n"),
    ("L24", "def f(x):\n    return [y for y in set(x)]\n"),
    ("L24", "def f(x):\n    y = set(x) - set([1])\n    return len(y)\n"),
    ("L25", "def f(x):\n    x.sort()\n"),
    ("L27", "def f(x):\n    return 2 ** x\n"),
]


class TestLanguage(unittest.TestCase):
    def test_the_package_keeps_to_the_rules(self):
        for path in sorted(PACKAGE.glob("*.py")):
            with self.subTest(path=path.name):
                self.assertEqual(faults(path.read_bytes().decode("ascii")), [])

    def test_nothing_else_lies_in_the_package(self):
        for path in PACKAGE.iterdir():
            if path.name != "__pycache__":
                self.assertRegex(path.name, r"^[a-z_][a-z0-9_]*\.py$")
                self.assertNotIn(path.stem, FILE_NAMES_OUT)
        self.assertTrue((PACKAGE / "__init__.py").exists())

    def test_files_draw_only_from_the_package_and_never_in_a_ring(self):
        drawn = {}
        for path in PACKAGE.glob("*.py"):
            drawn["halfseen." + path.stem] = drawn_from(path.read_text())
        done = []
        while len(done) < len(drawn):
            free = [name for name in drawn if name not in done and set(drawn[name]) <= set(done)]
            self.assertTrue(free, "a ring, or a file from outside: " + repr(drawn))
            done.extend(free)

    def test_wrong_code_is_found(self):
        for rule, text in WRONG:
            with self.subTest(rule=rule, text=text):
                self.assertIn(rule, [fault[0] for fault in faults(HEAD + text)])

    def test_no_function_leads_back_to_itself(self):
        # A recursion might go deeper than every Python allows, so the package has none at all.
        stands_in = {}
        for path in PACKAGE.glob("*.py"):
            stands_in.update(calls_between(path.read_text()))
        done = []
        while len(done) < len(stands_in):
            free = [name for name in stands_in if name not in done and not set(stands_in[name]) & set(stands_in) - set(done)]
            self.assertTrue(free, "a ring among these: " + repr(sorted(set(stands_in) - set(done))))
            done.extend(free)

    def test_no_two_files_have_a_function_of_one_name(self):
        names = [name for path in PACKAGE.glob("*.py") for name in calls_between(path.read_text())]
        self.assertEqual(sorted(set(names)), sorted(names))

    def test_plain_code_is_let_by(self):
        for text in (
                "MOST = 3\n\n\ndef f(x):\n    return [y for y in x if y < MOST]\n",
                "def f(x):\n    return [y for y in range(x)] + list(reversed(x)) + sorted(set(x) - set([1]))\n",
                "def f(x):\n    for y in list(x):\n        x.append(y)\n    return set(x) == set([1]) or 1 in set(x)\n",
                "def f(x):\n    return max(x.values()) + len(set(x)) + sum(range(3))\n"):
            self.assertEqual(faults(HEAD + text), [])


if __name__ == "__main__":
    unittest.main()
