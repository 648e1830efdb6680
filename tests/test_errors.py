import unittest

from hangmobile.errors import MobileError, NoNumber, NoPlace, NoText

THREE = (NoNumber, NoPlace, NoText)


class Errors(unittest.TestCase):
    def test_each_of_the_three_stands_under_mobile_error(self):
        for error in THREE:
            self.assertTrue(issubclass(error, MobileError), error)
            self.assertIsNot(error, MobileError)

    def test_mobile_error_stands_under_value_error(self):
        self.assertTrue(issubclass(MobileError, ValueError))
        self.assertIsNot(MobileError, ValueError)

    def test_none_of_the_three_stands_under_another(self):
        for one in THREE:
            for other in THREE:
                self.assertEqual(issubclass(one, other), one.__name__ == other.__name__, (one, other))

    def test_each_is_raised_and_taken_with_words(self):
        for error in THREE:
            for taken in (error, MobileError, ValueError):
                with self.assertRaises(taken):
                    raise error("words")


if __name__ == "__main__":
    unittest.main()
