"""The error classes, with their fields."""

import unittest

from poolrows import errors

INDEXED = [errors.BadNet, errors.BadRow, errors.BadRun]
PLAIN = [errors.BadDeed, errors.BadOrder, errors.BadPools, errors.NotEnding, errors.NotText]
FIELDS = [(errors.InvalidText, "place"), (errors.TooMany, "most")]


class ErrorsTest(unittest.TestCase):
    def test_all_are_direct_subclasses_of_the_base(self):
        self.assertEqual(errors.PoolError.__bases__, (ValueError,))
        for kind in INDEXED + PLAIN + [kind for kind, _ in FIELDS]:
            self.assertEqual(kind.__bases__, (errors.PoolError,))

    def test_index(self):
        for kind in INDEXED:
            for index in (None, 0, 7):
                self.assertEqual(vars(kind(index)), {"index": index})
                self.assertEqual(vars(kind(index=index)), {"index": index})

    def test_place_and_most(self):
        for kind, field in FIELDS:
            self.assertEqual(vars(kind(5)), {field: 5})
            self.assertEqual(vars(kind(**{field: 5})), {field: 5})

    def test_errors_without_fields(self):
        for kind in PLAIN:
            self.assertEqual(vars(kind("why")), {})
            self.assertEqual(vars(kind()), {})
            self.assertEqual(str(kind("why")), "why")

    def test_messages_tell_the_fields(self):
        for kind in INDEXED + [kind for kind, _ in FIELDS]:
            self.assertIn("37", str(kind(37)))


if __name__ == "__main__":
    unittest.main()
