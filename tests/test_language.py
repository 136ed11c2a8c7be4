"""The package keeps the rules of the language, as far as tests.language sees them."""

import pathlib
import unittest
import warnings

from tests.language import faults_in

FOLDER = pathlib.Path(__file__).resolve().parent.parent / "brookworks"

SPOILT = {
    "L2": "import os\n",
    "L2, L16: gcd": "from math import gcd as common\n",
    "L2, L16: nothing": "from brookworks.bad import nothing\n",
    "L2: an import": "ONE = 1\nfrom math import gcd\n",
    "L3: For": "for k in (1, 2):\n    pass\n",
    "L3, L15": "ROWS = [[1], [2]]\n",
    "L4: a default": "def one(rows=[]):\n    return rows\n",
    "L5": "class One:\n    def __del__(self):\n        pass\n",
    "L6": "def one():\n    global ONE\n    ONE = 1\n",
    "L7: a float": "def one():\n    return 1.5\n",
    "L7: /": "def one(a, b):\n    return a / b\n",
    "L7: a generator": "def one(rows):\n    return any(row for row in rows)\n",
    "L8": "def one(rows):\n    return print(rows)\n",
    "L10: line": "ONE = 1  #" + " " * 120 + "\n",
    "L10: one": "def one():\n" + "    pass\n" * 40,
    "L10: more": "\n" * 400,
    "L12": "def _0one():\n    pass\n",
    "L12: _": "def one(rows):\n    return [_ for _ in rows]\n",
    "L14": "ONE = 1  # \u20ac\n",
    "L15, L17": "def one(id):\n    return id\n",
    "L15: ONE": "ONE = 1\nONE = 2\n",
    "L15: ['gcd']": "from math import gcd\n\ndef one(gcd):\n    return gcd\n",
    "L17": "ONE = 'a namedtuple'\n",
    "L19: what is caught": "def one():\n    try:\n        pass\n    except Exception:\n        pass\n",
    "L19: what is raised": "def one(bad):\n    raise bad\n",
    "L20": "def one(a, b):\n    return a is b\n",
    "L22": "def one(rows):\n    return tuple(rows, strict=True)\n",
    "L24": "def one(rows):\n    return set(rows)\n",
    "L25": "def one(text):\n    return text.format_it()\n",
    "L26": "class One:\n    def __init__(self):\n        self.items = 1\n",
    "L27: an exponent": "def one(k):\n    return 2 ** k\n",
    "L27: an escape": "ONE = '\\x41'\n",
    "L27: the percent": "ONE = '100 %'\n",
}


class Language(unittest.TestCase):
    def sources(self):
        return {path.name: path.read_text("utf-8") for path in sorted(FOLDER.glob("*.py"))}

    def test_package_keeps_the_rules(self):
        self.assertEqual(faults_in(self.sources()), [])

    def test_folder_holds_nothing_else(self):
        others = [path.name for path in FOLDER.iterdir() if path.suffix != ".py"]
        self.assertLessEqual(set(others), {"__pycache__"})

    def test_python_warns_of_nothing(self):
        with warnings.catch_warnings():
            warnings.simplefilter("error")
            for name, text in self.sources().items():
                compile(text, name, "exec")

    def test_spoilt_code_is_seen(self):
        for fault, text in SPOILT.items():
            with self.subTest(fault):
                found = faults_in({"bad.py": text})
                self.assertTrue(any(one.startswith(f"bad.py: {fault}") for one in found), found)

    def test_rings_of_imports_are_seen(self):
        one = "from brookworks.b import two\n\n\ndef one():\n    return two()\n"
        two = "from brookworks.a import one\n\n\ndef two():\n    return one()\n"
        self.assertEqual(len(faults_in({"a.py": one, "b.py": two})), 1)

    def test_names_of_files_are_seen(self):
        for name in ("Bad.py", "test_bad.py", "len.py", "math.py"):
            with self.subTest(name):
                self.assertNotEqual(faults_in({name: ""}), [])


if __name__ == "__main__":
    unittest.main()
