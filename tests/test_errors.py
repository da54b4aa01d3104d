import unittest

from compasswork import errors


class Errors(unittest.TestCase):
    def test_base_class(self):
        self.assertEqual(errors.WorkError.__bases__, (ValueError,))

    def test_direct_subclasses(self):
        for name in ("ZeroDivisor", "NegativeRoot", "NoRoot", "BadText", "BadStep", "NotDrawn"):
            self.assertEqual(getattr(errors, name).__bases__, (errors.WorkError,), name)

    def test_raised_without_arguments(self):
        for error in (errors.ZeroDivisor, errors.NegativeRoot, errors.NoRoot):
            with self.assertRaises(errors.WorkError) as caught:
                raise error()
            self.assertEqual(caught.exception.args, ())

    def test_fields(self):
        self.assertEqual(errors.BadText(0).place, 0)
        self.assertEqual(errors.BadText(place=7).place, 7)
        for error in (errors.BadStep, errors.NotDrawn):
            self.assertEqual(error(0).index, 0)
            self.assertEqual(error(index=999).index, 999)

    def test_fields_have_to_be_told(self):
        for error in (errors.BadText, errors.BadStep, errors.NotDrawn):
            self.assertIn("__init__", vars(error))
            with self.assertRaises(TypeError):
                error()


if __name__ == "__main__":
    unittest.main()
