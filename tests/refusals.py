"""What the tests share: things of all kinds, and how a refusal is looked at."""

import unittest

from ringheaps.errors import HeapError

NO_NAMES = [
    None, True, False, 0, 1, -1, 10 ** 99,
    "", " ", "\n", "a ", " a", "a\n", "\na", "a b", "A", "aB", "a1", "1", "a_b", "a-b", "a:", "{a}",
    "`", "abcdefghi", "abcdefghij", "z" * 2000,
    [], ["a"], (), ("a",), ("a", ()), {}, {"a": "a"}, [[]], ([],), {"a": []},
]


class RefusalCase(unittest.TestCase):
    def assert_refused(self, kind, field, call, *args):
        """call(*args) raises just this class, and its field is equal and of the same kind."""
        with self.assertRaises(HeapError) as caught:
            call(*args)
        error = caught.exception
        self.assertIs(type(error), kind)
        found = error.row if hasattr(error, "row") else error.found
        self.assertEqual(found, field)
        self.assertIs(type(found), type(field))
