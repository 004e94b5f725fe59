"""tablestore.answers, by the points [8.3] and [8.4]."""

import unittest

from tablestore import errors
from tablestore.answers import answer_text, refusal_text

REFUSALS = [
    ("TableThere", "refused: table there"), ("NoTable", "refused: no table"), ("NoColumn", "refused: no column"),
    ("IndexThere", "refused: index there"), ("NoRow", "refused: no row"), ("BadRow", "refused: row"),
    ("Clash", "refused: clash"), ("BadQuestion", "refused: question"),
]


class Texts(unittest.TestCase):
    def test_answers(self):
        for values, text in (
            ((None,), "none"), ((0,), "0"), (("",), '""'), ((-5, "a b", None), '-5 "a b" none'), (('"',), '""""'),
            (tuple(range(8)), "0 1 2 3 4 5 6 7"), (("none", "1"), '"none" "1"'),
            ((10 ** 18 - 1, "~" * 40), "9" * 18 + ' "' + "~" * 40 + '"'),
        ):
            self.assertEqual(answer_text(values), text)

    def test_refusals(self):
        for name, text in REFUSALS:
            self.assertEqual(refusal_text(getattr(errors, name)("whatever it says")), text)
            self.assertEqual(refusal_text(getattr(errors, name)("")), text)


if __name__ == "__main__":
    unittest.main()
