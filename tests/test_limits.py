import unittest

from purepowers import limits


class Limits(unittest.TestCase):
    def test_each_value(self):
        told = {
            "MOST_SIZE": 1000000000000000000000000000000,
            "MOST_LOOKS": 20,
            "MOST_LOOKED": 1000,
            "MOST_DEGREE": 60,
            "MOST_ROOTS": 5,
            "MOST_LISTED": 200,
        }
        for name, value in told.items():
            with self.subTest(name):
                self.assertEqual(getattr(limits, name), value)
                self.assertIs(getattr(limits, name).__class__, int)


if __name__ == "__main__":
    unittest.main()
