"""Point [2]: numbers are Python's whole numbers, never True or False."""

import unittest

from nearstairs.things import is_number


class IsNumber(unittest.TestCase):
    def test_numbers(self):
        for thing in [0, 1, -1, 9999, 10 ** 30, -10 ** 30]:
            with self.subTest(thing=thing):
                self.assertIs(is_number(thing), True)

    def test_other_things(self):
        for thing in [True, False, None, "", "1", [], [1], (), (1,), [[0]]]:
            with self.subTest(thing=thing):
                self.assertIs(is_number(thing), False)


if __name__ == "__main__":
    unittest.main()
