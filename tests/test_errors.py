import unittest

from leasehall import errors


class Errors(unittest.TestCase):
    def test_base_class(self):
        self.assertTrue(issubclass(errors.CacheError, ValueError))
        for name in ["NotFound", "Full", "IsDown", "IsUp", "Malformed"]:
            self.assertTrue(issubclass(getattr(errors, name), errors.CacheError), name)

    def test_created_without_arguments(self):
        for name in ["NotFound", "Full", "IsDown", "IsUp"]:
            with self.assertRaises(errors.CacheError):
                raise getattr(errors, name)()

    def test_kinds_are_apart(self):
        kinds = [errors.NotFound, errors.Full, errors.IsDown, errors.IsUp, errors.Malformed]
        for one in kinds:
            for other in kinds:
                self.assertEqual(issubclass(one, other), one is other)

    def test_malformed_tells_the_index(self):
        self.assertEqual(errors.Malformed(0).index, 0)
        self.assertEqual(errors.Malformed(17).index, 17)


if __name__ == "__main__":
    unittest.main()
