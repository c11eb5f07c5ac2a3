"""Point [2], the refusals: which class stands where, and how each is made."""

import unittest

from nearstairs import errors
from nearstairs.errors import BadRow, NoFit, NoShelf, NoStair, NotThere, StairError, There

PLAIN = [There, NotThere, NoShelf, NoFit, NoStair]
REFUSALS = PLAIN + [BadRow]


class Classes(unittest.TestCase):
    def test_stair_error_stands_straight_under_value_error(self):
        self.assertEqual(StairError.__bases__, (ValueError,))

    def test_each_refusal_stands_straight_under_stair_error(self):
        for refusal in REFUSALS:
            with self.subTest(refusal=refusal):
                self.assertEqual(refusal.__bases__, (StairError,))

    def test_none_stands_under_another_one(self):
        for one in REFUSALS:
            for other in REFUSALS:
                with self.subTest(one=one, other=other):
                    self.assertIs(issubclass(one, other), one is other)

    def test_stair_error_stands_under_none_of_them(self):
        for refusal in REFUSALS:
            with self.subTest(refusal=refusal):
                self.assertFalse(issubclass(StairError, refusal))

    def test_each_bears_its_own_name(self):
        names = ["There", "NotThere", "NoShelf", "NoFit", "NoStair", "BadRow"]
        self.assertEqual([refusal.__name__ for refusal in REFUSALS], names)
        self.assertEqual(StairError.__name__, "StairError")

    def test_the_file_has_no_refusal_beside_these(self):
        found = [thing for thing in vars(errors).values()
                 if isinstance(thing, type) and issubclass(thing, StairError)]
        self.assertCountEqual(found, REFUSALS + [StairError])


class Making(unittest.TestCase):
    def test_each_is_made_with_words(self):
        for refusal in PLAIN + [StairError]:
            for words in ["board 5 is there", "", "two\nrows"]:
                with self.subTest(refusal=refusal, words=words):
                    self.assertEqual(str(refusal(words)), words)

    def test_each_is_taken_by_its_own_name_and_by_those_above(self):
        for refusal in PLAIN:
            for above in [refusal, StairError, ValueError]:
                with self.subTest(refusal=refusal, above=above):
                    with self.assertRaises(above):
                        raise refusal("words")

    def test_none_is_taken_by_another_one_s_name(self):
        for refusal in PLAIN:
            for other in REFUSALS:
                if other is not refusal:
                    with self.subTest(refusal=refusal, other=other):
                        self.assertNotIsInstance(refusal("words"), other)

    def test_bad_row_has_its_row(self):
        for row in [0, 1, 5, 299, 300]:
            with self.subTest(row=row):
                refused = BadRow("not a row", row)
                self.assertEqual(refused.row, row)
                self.assertIs(type(refused.row), int)
                self.assertEqual(str(refused), "not a row")

    def test_bad_row_is_taken_with_its_row(self):
        for above in [BadRow, StairError, ValueError]:
            with self.subTest(above=above):
                with self.assertRaises(above) as taken:
                    raise BadRow("not a row", 7)
                self.assertEqual(taken.exception.row, 7)

    def test_two_bad_rows_keep_each_its_own(self):
        one = BadRow("one", 1)
        other = BadRow("other", 2)
        self.assertEqual((one.row, other.row), (1, 2))


if __name__ == "__main__":
    unittest.main()
