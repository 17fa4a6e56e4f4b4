"""The errors of the package, also those that later parts will raise."""

import unittest

from runcolumns import errors
from tests.cases import Case

PLAIN = [
    "BadTable", "BadIndex", "BadColumn", "BadOrder", "BadPrices", "BadRow", "BadSizes", "BadAsk", "TooLarge",
    "NothingDone", "BadCounts", "BadMost", "BadPages", "BadSet",
]
WITH_INDEX = ["BadRows", "BadRuns", "BadAsks", "BadSets", "BadPieces"]


class ErrorsTest(Case):

    def test_base(self):
        self.assertEqual(errors.ColumnError.__bases__, (ValueError,))

    def test_direct_subclasses(self):
        for name in PLAIN + WITH_INDEX + ["BadText"]:
            self.assertEqual(getattr(errors, name).__bases__, (errors.ColumnError,), name)

    def test_no_others(self):
        found = {name for name in vars(errors) if not name.startswith("_")}
        self.assertEqual(found, {"ColumnError", "BadText", *PLAIN, *WITH_INDEX})

    def test_index(self):
        for name in WITH_INDEX:
            for index in (None, 0, 3):
                self.assertEqual(getattr(errors, name)(index).index, index)
            self.assertIsInstance(str(getattr(errors, name)(2)), str)

    def test_line(self):
        self.assertEqual(errors.BadText(4).line, 4)

    def test_plain_errors_take_words(self):
        for name in PLAIN:
            self.assertEqual(str(getattr(errors, name)("why")), "why")


if __name__ == "__main__":
    unittest.main()
