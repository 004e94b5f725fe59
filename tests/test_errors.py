"""The classes of tablestore.errors, by the interface of stage 1."""

import unittest

from tablestore import errors

NAMES = [
    "BadValue", "BadShape", "BadChange", "BadRow", "NoTable", "TableThere", "NoColumn",
    "IndexThere", "NoRow", "Over", "Clash", "BadLog", "BadQuestion", "BadDesk",
]


class Errors(unittest.TestCase):
    def test_any_refusal_is_a_value_error(self):
        self.assertEqual(errors.TableError.__bases__, (ValueError,))
        self.assertEqual(str(errors.TableError("why")), "why")

    def test_each_class_stands_under_table_error(self):
        for name in NAMES:
            with self.subTest(name):
                self.assertEqual(getattr(errors, name).__bases__, (errors.TableError,))
                self.assertEqual(getattr(errors, name).__name__, name)

    def test_each_can_be_made_of_a_text_and_taken_by_name(self):
        for name in NAMES:
            kind = getattr(errors, name)
            for taken in (kind, errors.TableError, ValueError):
                with self.subTest(name), self.assertRaises(taken) as caught:
                    raise kind("why")
                self.assertEqual(str(caught.exception), "why")

    def test_none_is_taken_for_another(self):
        for name in NAMES:
            for other in NAMES:
                same = issubclass(getattr(errors, name), getattr(errors, other))
                self.assertEqual(same, name == other, (name, other))


if __name__ == "__main__":
    unittest.main()
