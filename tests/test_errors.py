import unittest

from fewdistances import errors

PLAIN = ("NoPoint", "NoLot", "NoNumber", "NoCircle", "NoMarks", "NoFars", "NoText", "NoLine", "NoDeed")


class ErrorsTest(unittest.TestCase):

    def test_any_refusal_stands_straight_under_value_error(self):
        self.assertEqual(errors.FarError.__bases__, (ValueError,))

    def test_each_refusal_stands_straight_under_far_error(self):
        for name in PLAIN + ("Alike", "TooMany"):
            self.assertEqual(getattr(errors, name).__bases__, (errors.FarError,), name)

    def test_each_class_is_its_own(self):
        kinds = {getattr(errors, name) for name in PLAIN + ("Alike", "TooMany")}
        self.assertEqual(len(kinds), 11)

    def test_plain_ones_are_made_with_nothing_or_a_text(self):
        for name in PLAIN:
            kind = getattr(errors, name)
            for error in (kind(), kind("why")):
                with self.assertRaises(errors.FarError):
                    raise error

    def test_alike_has_four_fields(self):
        error = errors.Alike((0, 0), (0, 1), (1, 0), (1, 1))
        self.assertEqual((error.one, error.two), ((0, 0), (0, 1)))
        self.assertEqual((error.three, error.four), ((1, 0), (1, 1)))
        self.assertIsInstance(str(error), str)

    def test_too_many_has_two_fields(self):
        error = errors.TooMany(41, 40)
        self.assertEqual((error.many, error.most), (41, 40))
        self.assertIsInstance(str(error), str)

    def test_fields_are_all_needed_and_no_more(self):
        for kind, some in ((errors.Alike, (1, 2, 3)), (errors.Alike, (1, 2, 3, 4, 5)),
                           (errors.TooMany, (1,)), (errors.TooMany, (1, 2, 3))):
            with self.assertRaises(TypeError):
                kind(*some)


if __name__ == "__main__":
    unittest.main()
