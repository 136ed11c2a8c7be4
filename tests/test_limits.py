"""KEYWORDS and the bounds. [3] and the interface"""

import unittest

from brookworks import limits


class Limits(unittest.TestCase):
    def test_keywords(self):
        self.assertEqual(limits.KEYWORDS, (
            "fixed", "sum", "less", "by", "pick", "late", "half", "twice", "most", "least", "over",
            "spring", "brook", "out", "beat",
        ))
        self.assertIs(type(limits.KEYWORDS), tuple)

    def test_what_is_taken_where_nothing_is_handed_in(self):
        self.assertEqual(limits.SIZE, 8)
        self.assertEqual(limits.MOST_BOXES, 120)
        self.assertEqual(limits.WIDE, 24)
        self.assertEqual(limits.FIGURES, 8)
        self.assertEqual(limits.FINE, 6)
        self.assertEqual(limits.MOST_WAYS, 300)


if __name__ == "__main__":
    unittest.main()
