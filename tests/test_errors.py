"""pinchworks.errors: all errors, their base class and their fields."""

import unittest

from pinchworks import errors

PLAIN = """
    BadProblem BadGap BadLevel BadLoads Unbalanced HasBoxes BadRing BadLoad BadFlag BadHeating BadPath BadSpreads
    BadDirt BadPrice BadEngine BadPrices BadName NoName NothingToUndo BadGroup BadSwings BadOwners BadMains BadMatch
    OutOfRange OtherGap NotText
""".split()

INDEXED = """
    BadStreams BadBoxes BadSupplies BadBarred BadNetwork BadPeriods BadWater BadJobs BadStructure BadColumns
""".split()


class TestErrors(unittest.TestCase):
    def test_base_class(self):
        self.assertEqual(errors.HeatError.__bases__, (ValueError,))
        for name in PLAIN + INDEXED + ["InvalidText", "TooMany"]:
            self.assertEqual(getattr(errors, name).__bases__, (errors.HeatError,), name)
            self.assertEqual(getattr(errors, name).__module__, "pinchworks.errors", name)

    def test_no_others(self):
        found = [name for name, value in vars(errors).items() if isinstance(value, type)]
        self.assertEqual(sorted(found), sorted(PLAIN + INDEXED + ["HeatError", "InvalidText", "TooMany"]))

    def test_plain_ones(self):
        for name in PLAIN:
            self.assertEqual(vars(getattr(errors, name)()), {}, name)
            self.assertEqual(str(getattr(errors, name)("why")), "why", name)

    def test_indexed_ones(self):
        for name in INDEXED:
            for index in (None, 0, 3):
                error = getattr(errors, name)(index)
                self.assertEqual(vars(error), {"index": index}, name)
                self.assertIs(type(error.index), type(index))

    def test_places(self):
        self.assertEqual(vars(errors.InvalidText(4, 2)), {"line": 4, "place": 2})
        self.assertEqual(vars(errors.TooMany(9)), {"most": 9})

    def test_messages_are_strings(self):
        for error in (errors.BadStreams(None), errors.BadBarred(2), errors.InvalidText(1, 2), errors.TooMany(4)):
            self.assertIsInstance(str(error), str)


if __name__ == "__main__":
    unittest.main()
