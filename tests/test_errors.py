"""The errors of the interface."""

import unittest

from classledger.errors import Fault, Malformed, NoText, Refused


class Errors(unittest.TestCase):
    def test_bases(self):
        self.assertTrue(issubclass(Fault, ValueError))
        for kind in (Malformed, Refused, NoText):
            self.assertTrue(issubclass(kind, Fault))
            self.assertTrue(issubclass(kind, ValueError))

    def test_none_is_a_subclass_of_another_one(self):
        kinds = (Malformed, Refused, NoText)
        for one in kinds:
            for two in kinds:
                self.assertEqual(issubclass(one, two), one is two)

    def test_objects(self):
        self.assertEqual(Refused("large").reason, "large")
        self.assertEqual(NoText(7).at, 7)
        self.assertIsInstance(Malformed("no form"), Fault)

    def test_raised(self):
        with self.assertRaises(Fault) as caught:
            raise Refused("many")
        self.assertEqual(caught.exception.reason, "many")
        with self.assertRaises(ValueError) as caught:
            raise NoText(0)
        self.assertEqual(caught.exception.at, 0)
        with self.assertRaises(ValueError):
            raise Malformed("no form")


if __name__ == "__main__":
    unittest.main()
