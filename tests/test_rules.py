"""The check of the rules of LANGUAGE.md: it passes the package, and refuses what breaks a rule."""

import importlib.util
import pathlib
import unittest

TOP = pathlib.Path(__file__).resolve().parent.parent


def load_rules():
    spec = importlib.util.spec_from_file_location("rules", TOP / ".ci" / "rules.py")
    module = importlib.util.module_from_spec(spec)
    spec.loader.exec_module(module)
    return module


RULES = load_rules()

BASE = '''"""Names that the files under trial import."""


class Bad(ValueError):
    """An error."""

    def __init__(self, place):
        self.place = place


class Box:
    """A class with equality and rows."""

    def __init__(self, rows):
        self._rows = rows

    @property
    def many(self):
        """How many rows there are."""
        return len(self._rows)

    def __eq__(self, other):
        return isinstance(other, Box) and self._rows == other._rows

    def __len__(self):
        return len(self._rows)

    def __repr__(self):
        return f"Box({self._rows!r})"

    def rows(self):
        """The rows."""
        return [list(row) for row in self._rows]


def steps(many):
    """The numbers below many."""
    for at in range(many):
        yield at
'''

GOOD = [
    "", "LIMIT = 4", "LOW = -1", "PAIRS = ((1, 2), (3, 4))", "NAMES = ['a', 'b']\n\n\ndef f(x):\n    return NAMES[x]",
    "from factflows.base import Bad\n\n\ndef f(x):\n    raise Bad(x)",
    "def f(xs):\n    return sorted(set(xs))", "def f(xs):\n    return sorted({x + 1 for x in xs})",
    "def f(xs, ys):\n    return set(xs) == set(ys)", "def f(xs, y):\n    return y in {'a', 'b', y} or len(set(xs)) > 1",
    "def f(xs):\n    seen = set()\n    for x in xs:\n        seen.add(x)\n    return sorted(seen)",
    "def f(xs, ys):\n    return sorted(set(xs) - set(ys))",
    "def f(xs):\n    return [x for _, x in xs]", "def f(xs):\n    return tuple(x for x in xs)",
    "def f(xs):\n    return all([x > 1 for x in xs])", "def f(xs):\n    return ' / '.join([str(x) for x in xs])",
    "def f(xs):\n    return [x for x in reversed(range(len(xs)))]", "def f(d):\n    return sorted(d.items())",
    "def f(x):\n    return x ** 2", "def f(x):\n    return x % 7", "def f(x):\n    return 'a\\n' + x",
    "def f(x):\n    return f\"{x!r} of {len(x)}\"", "def f(x):\n    return x is None or x is not True",
    "def f(x):\n    return isinstance(x, (int, str)) and not isinstance(x, bool)",
    "def f(xs):\n    return sorted(xs, key=lambda x: x[0])", "def f(xs):\n    return max(xs, default=0)",
    "from factflows.base import steps\n\n\ndef f(n):\n    return [x for x in steps(n)]",
    "def f(d):\n    for k in list(d):\n        d.pop(k)", "def f(word):\n    '''On type and enum, law and set.'''\n    return word",
    "def f(x, *, y=0, z=None):\n    return x + y",
]

BROKEN = [
    ("L2", "import sys"), ("L2", "import math"), ("L2", "from .base import Bad"), ("L16", "from factflows.base import *"),
    ("L2", "from typing import Any"), ("L2", "def f():\n    from factflows.base import Bad\n    return Bad(1)"),
    ("L2", "LIMIT = 4\nfrom factflows.base import Bad"), ("L2", "import factflows.base"),
    ("L2", "from factflows.none import Bad"), ("L16", "from factflows.base import nothing"),
    ("L16", "from factflows.base import Bad as Worse"),
    ("L3", "print(1)"), ("L3", "A = B = 1"), ("L3", "A, B = 1, 2"), ("L3", "A = len('a')"), ("L3", "A = [x for x in 'a']"),
    ("L3", "if 1:\n    A = 1"), ("L3", "A = 1 + 1"), ("L3", "A = 1.5"), ("L3", "A: int = 1"), ("L3", "for x in 'a':\n    A = x"),
    ("L15", "A = 1\nA = 2"), ("L15", "def f():\n    return 1\n\n\ndef f():\n    return 2"),
    ("L15", "from factflows.base import Bad\n\n\ndef Bad():\n    return 1"), ("L3", "A = [[1]]"), ("L3", "A = {'a': []}"),
    ("L15", "A = [1]\n\n\ndef f():\n    A.append(2)"), ("L15", "A = [1]\n\n\ndef f():\n    A[0] = 2"),
    ("L15", "A = {'a': 1}\n\n\ndef f():\n    return A"), ("L15", "A = [1]\n\n\ndef f():\n    b = A\n    return b[0]"),
    ("L15", "A = [1]\n\n\ndef f(g):\n    return g(A)"), ("L15", "def f():\n    class C:\n        pass\n    return C()"),
    ("L15", "def f(hash):\n    return hash"), ("L15", "def f():\n    next = 1\n    return next"),
    ("L15", "def f(xs):\n    return [id for id in xs]"), ("L15", "def map():\n    return 1"),
    ("L15", "from factflows.base import Bad\n\n\ndef f(Bad):\n    return Bad"),
    ("L15", "from factflows.base import steps\n\n\ndef f():\n    steps = 1\n    return steps"),
    ("L15", "def f():\n    def len():\n        return 1\n    return 2"), ("L15", "max = 4"),
    ("L10", "# " + "x" * 119), ("L10", "\n" * 399 + "A = 1"), ("L10", "def f():\n" + "    pass\n" * 40),
    ("L14", "\tA = 1".strip() + "\t"), ("L14", "# \xe9"), ("L14", "A = '\u2014'"), ("L14", "A = 1\r\nB = 2"),
    ("L4", "def g(f):\n    return f\n\n\n@g\ndef h():\n    return 1"), ("L4", "def f(x=[]):\n    return x"),
    ("L4", "def f(x=len('a')):\n    return x"), ("L5", "class A:\n    def __hash__(self):\n        return 1"),
    ("L5", "class A:\n    @other\n    def f(self):\n        return 1"), ("L5", "def __len__(x):\n    return 1"),
    ("L18", "class A:\n    def f(self):\n        return 1\n\n    def f(self):\n        return 2"),
    ("L18", "class A:\n    def __init__(self):\n        self.f = 1\n\n    def f(self):\n        return 2"),
    ("L28", "class A:\n    def __init__(self):\n        return None"), ("L28", "class A:\n    def __len__(self):\n        return self.n()"),
    ("L28", "class A:\n    def __repr__(self):\n        return self.n()"),
    ("L28", "class A:\n    def __repr__(self):\n        if 1:\n            return 'a'"),
    ("L6", "def f():\n    global A\n    A = 1"), ("L19", "def f(x):\n    try:\n        return x[0]\n    except:\n        return 1"),
    ("L19", "def f(x):\n    try:\n        return x[0]\n    except Exception:\n        return 1"),
    ("L19", "def f(x):\n    raise x"), ("L19", "def f(x):\n    raise f(x)"), ("L20", "def f(x, y):\n    return x is y"),
    ("L20", "def f(x):\n    return x is 1000"), ("L7", "def f(x):\n    return x / 2"), ("L7", "def f(x):\n    return x * 0.5"),
    ("L7", "def f(xs):\n    return any(x > 1 for x in xs)"), ("L7", "def f(xs):\n    return sorted(x for x in xs)"),
    ("L7", "def f(x):\n    return f'{x!a}'"), ("L8", "def f(x):\n    print(x)"), ("L8", "def f(x):\n    return hash(x)"),
    ("L8", "def f(x):\n    return type(x)"), ("L8", "def f(x):\n    return filter(None, x)"),
    ("L12", "def f(x):\n    _, y = x\n    return _"), ("L12", "def __f(x):\n    return x"), ("L12", "_wall_a = 1"),
    ("L12", "def f(_record):\n    return 1"), ("L17", "def f(x):\n    return x.elements"), ("L17", "def f(law):\n    return law"),
    ("L17", "def f(open):\n    return open"), ("L17", "def f(x):\n    return f(mro=1)"), ("L17", "def f(gc):\n    return gc"),
    ("L17", "def f(x):\n    return x.f_back"), ("L17", "A = 'an enum'"), ("L17", "A = 'my_dataclass'"),
    ("L17", "def f(type):\n    return 1"), ("L17", "def f(x):\n    return x.namedtuple"), ("L17", "def redataclassed():\n    return 1"),
    ("L13", "def f(x):\n    y = {1, 2, 3}\n    return x in y"), ("L24", "def f(xs):\n    return set(xs)"),
    ("L24", "def f(xs):\n    for x in set(xs):\n        f(x)"), ("L24", "def f(xs):\n    return list(set(xs))"),
    ("L24", "def f(xs):\n    return [x for x in {y for y in xs}]"), ("L24", "def f(xs):\n    return frozenset(xs)"),
    ("L24", "def f(xs):\n    s = set(xs)\n    return s"), ("L24", "def f(xs):\n    s = set(xs)\n    s = set()\n    return len(s)"),
    ("L24", "def f(xs):\n    s = set(xs)\n    return f(s)"), ("L24", "def f(xs):\n    s = set(xs)\n    s.remove(1)"),
    ("L24", "def f(xs):\n    s = set(xs)\n    for x in s:\n        f(x)"), ("L24", "def f(xs):\n    s = set(xs)\n    return [s]"),
    ("L24", "def f(xs):\n    return sorted(set(xs), reverse=True)"), ("L24", "def f(xs):\n    return len(set(set(xs)))"),
    ("L24", "def f(x):\n    return {[x]: 1}"), ("L24", "def f(xs):\n    return {(x, [x]): 1 for x in xs}"),
    ("L24", "def f(xs):\n    s = set(xs)\n    return s or xs"), ("L24", "def f(xs):\n    return sorted(xs | set(xs).copy())"),
    ("L25", "def f(x):\n    return x.encode()"), ("L25", "def f(x):\n    return x.union(x)"), ("L25", "def f(x):\n    x.sort()"),
    ("L25", "def f(x):\n    return x.nothing"), ("L25", "def f(x):\n    return x.append"), ("L25", "def f(x):\n    return x.split(sep='a')"),
    ("L25", "def f(x):\n    return x.format(1)"), ("L26", "class A:\n    def __init__(self):\n        self.items = 1"),
    ("L26", "class A:\n    def __init__(self):\n        self.args = 1"), ("L26", "class A:\n    def decode(self):\n        return 1"),
    ("L26", "class A:\n    def bit_count(self):\n        return 1"), ("L26", "class A:\n    def __init__(self):\n        self.real = 1"),
    ("L5", "class A:\n    @property\n    def title(self):\n        return 1"),
    ("L18", "def f(x):\n    x[0].many = 1"), ("L18", "from factflows.base import Box\n\n\ndef f():\n    return [Box]"),
    ("L27", "def f(x, y):\n    return x ** y"), ("L27", "def f(x):\n    return x ** 65"), ("L27", "def f(x):\n    return 2 ** -1"),
    ("L27", "A = 'a%'"), ("L27", "def f(x):\n    '''10%'''\n    return x"), ("L27", "A = '\\t\\x41'"), ("L27", "A = '\\u0041'"),
    ("L27", "A = '\\\\\\r'"), ("L27", "def f(x):\n    return f'{x}%'"), ("L27", "def f(x):\n    return pow(x, 2)"), ("L8", "def f(x):\n    return chr(x)"),
    ("L27", "def f(x):\n    return f\"{x['a']}\""), ("L27", "A = 'x.__'"), ("L27", "A = '__odd__'"), ("L27", "A = 'f_code'"),
    ("L27", "A = 'a.__x'"), ("L27", "A = " + "9" * 901), ("L27", "def f(x):\n    return 1if x else 2"),
    ("L22", "def f(x):\n    return isinstance(x, float)"), ("L22", "def f(x, y):\n    return isinstance(x, y)"),
    ("L22", "def f(xs):\n    return [len][0](xs)"), ("L22", "def f(x):\n    return int(x, base=2)"),
    ("L5", "def f(x):\n    x = NotImplemented\n    return x"),
    ("L23", "def f(xs):\n    ys = zip(xs, xs)\n    return list(ys)"), ("L23", "def f(xs):\n    return enumerate(xs)"),
    ("L23", "def f(d):\n    return d.items()"), ("L23", "def f(d):\n    return len(d.values())"),
    ("L23", "from factflows.base import steps\n\n\ndef f(n):\n    return steps(n)"),
    ("L23", "from factflows.base import steps\n\n\ndef f(n):\n    return 1 in steps(n)"),
    ("L23", "from factflows.base import steps\n\n\ndef f(n):\n    return [steps]"),
    ("L23", "def f(xs):\n    for x in xs:\n        xs.append(x)"), ("L23", "def f(d):\n    for k, v in d.items():\n        d[k] = v + 1"),
    ("L23", "def f(xs):\n    for at, x in enumerate(xs):\n        xs[at] = x + 1"), ("L23", "def f(d):\n    for k in d:\n        del d[k]"),
]


def faults_of(text, name="trial.py", **more):
    texts = {"__init__.py": "", "base.py": BASE, name: text + "\n", **more}
    return RULES.faults("factflows", texts)


class RulesTest(unittest.TestCase):
    def test_the_package_keeps_the_rules(self):
        self.assertEqual(RULES.folder_faults(TOP / "factflows"), [])

    def test_what_keeps_the_rules_passes(self):
        for text in GOOD:
            with self.subTest(text):
                self.assertEqual(faults_of(text), [])

    def test_what_breaks_a_rule_is_refused(self):
        for rule, text in BROKEN:
            with self.subTest(text):
                self.assertIn(rule, [found for name, _, found, _ in faults_of(text) if name == "trial.py"])

    def test_names_of_files(self):
        for name in ("tests.py", "test_a.py", "law_a.py", "len.py", "Big.py", "a-b.py", "site.py", "register.py"):
            self.assertIn("L14", [rule for _, _, rule, _ in faults_of("", name)], name)
        self.assertIn("L14", [rule for _, _, rule, _ in RULES.faults("factflows", {"base.py": BASE})])

    def test_imports_in_a_circle(self):
        one = "from factflows.other import two\n\n\ndef one():\n    return two()"
        other = "from factflows.trial import one\n\n\ndef two():\n    return one()\n"
        self.assertIn("L16", [rule for _, _, rule, _ in faults_of(one, **{"other.py": other})])

    def test_imports_of_what_is_imported_there(self):
        other = "from factflows.base import Bad\n\n\ndef two():\n    return Bad(1)\n"
        self.assertIn("L16", [rule for _, _, rule, _ in faults_of("from factflows.other import Bad", **{"other.py": other})])

    def test_lines_are_told(self):
        self.assertEqual(faults_of("A = 1\n\n\ndef f(x):\n    return x / 2"),
                         [("trial.py", 5, "L7", "a sign that is not allowed")])


if __name__ == "__main__":
    unittest.main()
