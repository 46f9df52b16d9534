"""The error classes: promise [3]."""

import unittest

from onlyflags import errors

NAMES = [
    "InvalidRule", "InvalidBits", "InvalidPayloads", "InvalidLength", "InvalidIndex", "InvalidFraction",
    "InvalidChange", "InvalidKind", "InvalidFlag", "InvalidText", "InvalidInsert", "InvalidCheck", "InvalidNumber",
    "NothingToUndo", "Waiting", "Spoilt", "TooLong", "NotClean",
]


class TestErrors(unittest.TestCase):
    def test_all_are_frame_errors(self):
        self.assertTrue(issubclass(errors.FrameError, ValueError))
        for name in NAMES:
            found = getattr(errors, name)
            self.assertTrue(issubclass(found, errors.FrameError), name)
            self.assertEqual((found.__name__, found.__module__), (name, "onlyflags.errors"))

    def test_no_other_error_is_above_another_one(self):
        classes = [getattr(errors, name) for name in NAMES]
        for one in classes:
            for other in classes:
                self.assertEqual(issubclass(one, other), one is other)

    def test_raised_without_arguments(self):
        for name in ["FrameError"] + NAMES[:-1]:
            with self.assertRaises(errors.FrameError) as caught:
                raise getattr(errors, name)()
            self.assertEqual(type(caught.exception).__name__, name)

    def test_not_clean_has_its_reason(self):
        reason = [(1,)]
        self.assertIs(errors.NotClean(reason).reason, reason)
        self.assertEqual(errors.NotClean(reason=[()]).reason, [()])
        with self.assertRaises(TypeError):
            errors.NotClean()


if __name__ == "__main__":
    unittest.main()
