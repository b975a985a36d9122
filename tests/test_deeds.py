"""The limits of [13] and [17] that the interface lists in deeds.py."""

import unittest

from hiddenrank import deeds


class Limits(unittest.TestCase):
    def test_constants(self):
        self.assertEqual((deeds.MAX_RULES, deeds.MAX_REPORTS), (10, 40))


if __name__ == "__main__":
    unittest.main()
