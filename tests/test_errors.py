import unittest

from dragtold.errors import DragError


class ErrorTest(unittest.TestCase):
    def test_reason(self):
        error = DragError("not possible")
        self.assertEqual(error.reason, "not possible")
        self.assertEqual(str(error), "not possible")

    def test_is_a_value_error(self):
        self.assertTrue(issubclass(DragError, ValueError))
        with self.assertRaises(ValueError):
            raise DragError("doubt")


if __name__ == "__main__":
    unittest.main()
