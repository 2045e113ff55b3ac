import unittest

from ringheaps import errors
from ringheaps.errors import HeapError

FIELDS = {
    "NoGround": "row",
    "NoPlace": "found",
    "Twice": "found",
    "TooMany": "found",
    "NoText": "row",
    "NoHeap": "found",
    "NoMove": "found",
    "NotSo": "found",
    "Ring": "places",
    "NoWorth": "found",
    "NoLine": "found",
}

THINGS = [0, 7, -10 ** 99, "", "abc", "a\nb", "x" * 2000, None, [], ["a", 1], (), ("a", (1, None)), True, False, {"a": []}]


class Refusals(unittest.TestCase):
    def test_heap_error_stands_straight_under_value_error(self):
        self.assertEqual(HeapError.__bases__, (ValueError,))

    def test_each_class_stands_straight_under_heap_error(self):
        for name in FIELDS:
            self.assertEqual(getattr(errors, name).__bases__, (HeapError,), name)

    def test_none_stands_under_another_one(self):
        for name in FIELDS:
            for other in FIELDS:
                under = issubclass(getattr(errors, name), getattr(errors, other))
                self.assertIs(under, name == other, (name, other))

    def test_each_has_its_field(self):
        for name, field in FIELDS.items():
            for thing in THINGS:
                found = getattr(getattr(errors, name)(thing), field)
                self.assertEqual(found, thing, name)
                self.assertIs(type(found), type(thing), name)

    def test_each_is_raised_and_taken_as_a_heap_error(self):
        for name, field in FIELDS.items():
            with self.assertRaises(HeapError) as caught:
                raise getattr(errors, name)(["a"])
            self.assertEqual(getattr(caught.exception, field), ["a"])


if __name__ == "__main__":
    unittest.main()
