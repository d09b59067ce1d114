"""The package keeps the rules of ../shared/LANGUAGE.md, and the check of this finds what breaks them."""

import pathlib
import unittest

from broken import BROKEN
from rules import faults

FOLDER = pathlib.Path(__file__).resolve().parent.parent / "threeswaps"

ERRORS = '''"""Errors."""


class Wrong(ValueError):
    """A value is wrong."""

    def __init__(self, value):
        self.value = value
'''

SOUND = '''"""A sound file."""

from math import gcd

from threeswaps.errors import Wrong

LIMIT = 10
SIGNS = {"up": 1, "down": -1}
STEPS = (1, -2, "x", (3, None))


class Walk:
    """Steps."""

    MAX_STEPS = 20

    def __init__(self, steps, *, gap=None):
        if not isinstance(steps, (list, tuple)) or len(steps) > LIMIT:
            raise Wrong(steps)
        self._steps = list(steps)
        self.gap = gap

    @classmethod
    def single(cls, step):
        return cls([step])

    @property
    def period(self):
        return len(self._steps)

    def steps(self):
        return list(self._steps)

    def places(self, x):
        for step in self._steps:
            yield x
            x = x + step

    def __call__(self, x):
        return x + self._steps[x % len(self._steps)]

    def __eq__(self, other):
        return isinstance(other, Walk) and self._steps == other._steps

    def __len__(self):
        return len(self._steps)

    def __mul__(self, other):
        return Walk(self.steps() + other.steps(), gap=self.gap)

    def __repr__(self):
        return f"Walk({self._steps!r})"


class LongWalk(Walk):

    def __init__(self, steps):
        super().__init__(steps)
        self.seen = 0


def shares(*walks, most=LIMIT):
    found = 0
    for walk in walks:
        found = gcd(found, walk.period)
    return min(found, most)


def told(walk, *, first=0):
    try:
        sign = SIGNS["up"]
    except KeyError:
        return []
    seen = set()
    out = []
    for at, place in enumerate(walk.places(first * sign)):
        if place not in seen and at < walk.MAX_STEPS:
            seen.add(place)
            out.append(place)
    joined = ", ".join(str(place) for place in out)
    rows = sorted([(place, joined) for place in out], key=lambda row: row[0])
    low, *_ = [place for place, _ in rows] or [0]
    return [low // 2 ** 3] + [n for n in range(len(rows)) if n in {place for place in out}]
'''


def package(rows=""):
    """The texts of a small package."""
    return {"__init__.py": '"""A package."""\n', "errors.py": ERRORS, "rows.py": rows + "\n"}


def rules_of(texts):
    """The rules that a package breaks."""
    return [fault.rule for fault in faults(texts)]


class Language(unittest.TestCase):

    def test_the_package_keeps_the_rules(self):
        texts = {}
        for path in sorted(FOLDER.rglob("*")):
            # Python's own cache is no file of the package and is not committed.
            if path.is_file() and "__pycache__" not in path.parts:
                texts[path.relative_to(FOLDER).as_posix()] = path.read_bytes().decode("utf-8")
        self.assertIn("ratios.py", texts)
        self.assertEqual(faults(texts), [])


class Check(unittest.TestCase):

    def test_a_sound_package_has_no_faults(self):
        self.assertEqual(faults(package()), [])
        self.assertEqual(faults(package(SOUND)), [])

    def test_each_broken_rule_is_found(self):
        for rule in BROKEN:
            for rows in BROKEN[rule]:
                with self.subTest(rule, rows=rows[:200]):
                    self.assertIn(rule, rules_of(package(rows)))

    def test_files_and_folders(self):
        for rule, name in (("L1", "notes.txt"), ("L14", "Rows.py"), ("L14", "test_rows.py"), ("L14", "math.py"),
                           ("L14", "len.py"), ("L14", "a/b.py"), ("L14", "law_x.py"), ("L14", "a-b.py")):
            with self.subTest(name):
                self.assertIn(rule, rules_of({**package(), name: ""}))
        folder = {"a/__init__.py": "", "a/b.py": ""}
        self.assertEqual(faults({**package(), **folder}), [])
        self.assertIn("L14", rules_of({**package(), **folder, "a.py": ""}))
        self.assertIn("L14", rules_of({**package(), **folder, "a/__main__.py": ""}))
        self.assertIn("L14", rules_of({"rows.py": ""}))
        self.assertIn("L14", rules_of({**package(), **{f"a{n}.py": "" for n in range(100)}}))

    def test_files_that_import_from_each_other(self):
        one, two = "from threeswaps.two import B\n\nA = 1\n", "from threeswaps.one import A\n\nB = 1\n"
        self.assertIn("L16", rules_of({**package(), "one.py": one, "two.py": two}))
        self.assertEqual(faults({**package(), "one.py": one, "two.py": "B = 1\n"}), [])
        texts = {**package(), "__init__.py": "from threeswaps.one import A\n", "one.py": one, "two.py": "B = 1\n"}
        self.assertIn("L16", rules_of(texts))
        self.assertIn("L16", rules_of({**package(), "__init__.py": "rows = 1\n"}))

    def test_main_alone_prints_and_imports_sys(self):
        main = 'import sys\n\n\nif __name__ == "__main__":\n    print(sys.argv)\n'
        self.assertEqual(faults({**package(), "__main__.py": main}), [])
        self.assertIn("L2", rules_of(package("import sys")))
        self.assertIn("L2", rules_of({**package("from threeswaps.__main__ import A"), "__main__.py": "A = 1\n"}))


if __name__ == "__main__":
    unittest.main()
