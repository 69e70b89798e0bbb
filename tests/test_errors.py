import unittest

from signposts import errors


class Errors(unittest.TestCase):
    def test_tree(self):
        self.assertEqual(errors.SignError.__bases__, (ValueError,))
        for name in ["BadLand", "BadSigns", "BadPlace", "BadRoad", "AtHome", "NoSign"]:
            with self.subTest(name):
                kind = getattr(errors, name)
                self.assertEqual(kind.__bases__, (errors.SignError,))
                self.assertEqual(kind.__module__, "signposts.errors")


if __name__ == "__main__":
    unittest.main()
