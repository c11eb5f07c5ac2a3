"""Point [10]: marks, their bound, and what shows the least misses; with points [2] and [9] over them."""

import copy
import itertools
import random
import unittest

from nearstairs.least import farthest, fits, least_misses, misses_by
from nearstairs.marks import bound, marks_of, shows_least
from nearstairs.rows import run_row

RULES = ["old", "come", "few"]


def some_rows():
    chance = random.Random(10)
    rows = [[], [0], [9999], [3, 3], [3, 3, 3, 3], [1, 0, 1, 0], [0, 1, 2, 0, 1, 2], [0, 1, 2, 3, 2, 1, 0]]
    rows.append([1, 2, 3, 4, 1, 2, 5, 1, 2, 3, 4, 5])
    for many in [2, 3, 4, 6, 12]:
        for long in [8, 20, 50]:
            rows.append([chance.randrange(many) for place in range(long)])
    rows.append([chance.randrange(12) * 64 for place in range(40)])
    return rows


def long_rows():
    chance = random.Random(100)
    rows = [[5] * 400, list(range(400)), list(range(20)) * 20, [board * 64 for board in range(10)] * 40]
    for many in [4, 25, 120, 10000]:
        rows.append([chance.randrange(many) for place in range(400)])
    return rows


def all_marks(row):
    """Every rising list of unlike places of the row."""
    places = range(len(row))
    return [list(marks) for many in range(len(row) + 1) for marks in itertools.combinations(places, many)]


def bound_by_hand(shelves, places, row, marks):
    """As the document's sentence has it, pair by pair."""
    free = 0
    for i, j in itertools.combinations(range(len(row)), 2):
        if row[i] != row[j] or row[i] in row[i + 1:j]:
            continue
        if not [mark for mark in marks if i < mark < j and row[mark] % shelves == row[i] % shelves]:
            free += 1
    return (places - 1) * len(marks) + free


class Bound(unittest.TestCase):
    def check_bound(self, shelves, places, row, marks, told):
        row_before, marks_before = list(row), list(marks)
        many = bound(shelves, places, row, marks)
        if many != told or type(many) is not int:
            self.fail(f"bound({shelves}, {places}, {row}, {marks}) told {many}, not {told}")
        self.assertEqual(row, row_before)
        self.assertEqual(marks, marks_before)

    def test_no_marks_every_return_counts(self):
        rows = [([], 0), ([5], 0), ([5, 6], 0), ([5, 5], 1), ([5, 5, 5], 2), ([0, 1, 0, 1], 2)]
        rows.append(([0, 1, 2, 0, 1, 0], 3))
        for row, told in rows:
            for shelves, places in itertools.product([1, 2, 64], [1, 2, 16]):
                with self.subTest(shelves=shelves, places=places, row=row):
                    self.check_bound(shelves, places, row, [], told)

    def test_one_mark(self):
        row = [0, 1, 2, 0, 1]
        for mark, told in [(0, 2), (1, 1), (2, 0), (3, 1), (4, 2)]:
            for places in [1, 2, 16]:
                with self.subTest(mark=mark, places=places):
                    self.check_bound(1, places, row, [mark], places - 1 + told)

    def test_a_mark_on_a_return_s_own_place_is_not_between(self):
        for marks in [[0], [2], [0, 2]]:
            with self.subTest(marks=marks):
                self.check_bound(1, 1, [7, 8, 7], marks, 1)
        self.check_bound(1, 1, [7, 8, 7], [1], 0)
        self.check_bound(1, 1, [7, 7], [0, 1], 1)

    def test_a_mark_with_a_board_of_another_shelf(self):
        row = [0, 1, 2, 0, 1]
        self.check_bound(2, 1, row, [1], 2)
        self.check_bound(2, 1, row, [2], 1)
        self.check_bound(2, 1, row, [3], 2)
        self.check_bound(3, 1, row, [2], 2)
        self.check_bound(2, 3, row, [1, 2], 2 + 2 + 1)

    def test_a_mark_between_with_the_other_shelf_and_one_with_its_own(self):
        row = [0, 1, 64, 0]
        self.check_bound(64, 1, row, [1], 1)
        self.check_bound(64, 1, row, [2], 0)
        self.check_bound(64, 1, row, [1, 2], 0)

    def test_marks_at_every_place(self):
        row = [0, 1, 2, 0, 1, 1]
        for places in [1, 2, 16]:
            with self.subTest(places=places):
                self.check_bound(1, places, row, list(range(6)), 6 * (places - 1) + 1)
                self.check_bound(3, places, row, list(range(6)), 6 * (places - 1) + 3)

    def test_two_marks_between_count_as_one_for_the_return(self):
        self.check_bound(1, 1, [0, 1, 2, 0], [1, 2], 0)
        self.check_bound(1, 2, [0, 1, 2, 0], [1, 2], 2)

    def test_the_pair_beyond_the_next_like_board_is_no_return(self):
        # The places 0 and 3 are no return: the board stands at place 1, too.
        self.check_bound(1, 1, [0, 0, 1, 0], [], 2)
        self.check_bound(1, 1, [0, 0, 1, 0], [2], 1)

    def test_every_list_of_marks_of_short_rows_by_hand(self):
        for shelves, places in [(1, 1), (1, 2), (2, 1), (2, 3)]:
            for row in itertools.product([0, 1, 2], repeat=5):
                row = list(row)
                for marks in all_marks(row):
                    self.check_bound(shelves, places, row, marks, bound_by_hand(shelves, places, row, marks))

    def test_longer_rows_by_hand(self):
        chance = random.Random(11)
        for shelves, places in [(1, 1), (1, 16), (2, 2), (5, 3), (64, 16)]:
            for row in some_rows():
                for many in {0, min(1, len(row)), len(row) // 3, len(row)}:
                    marks = sorted(chance.sample(range(len(row)), many))
                    self.check_bound(shelves, places, row, marks, bound_by_hand(shelves, places, row, marks))

    def test_rows_of_400_by_hand(self):
        chance = random.Random(12)
        for row in long_rows():
            for shelves, many in [(1, 0), (1, 20), (3, 100), (64, 400)]:
                marks = sorted(chance.sample(range(400), many))
                self.check_bound(shelves, 4, row, marks, bound_by_hand(shelves, 4, row, marks))

    def test_no_order_that_fits_finds_more(self):
        chance = random.Random(13)
        for shelves, places in [(1, 1), (1, 2), (1, 4), (3, 2)]:
            for row in some_rows():
                orders = [[out for found, out in run_row(shelves, places, rule, row)] for rule in RULES]
                orders.append(farthest(shelves, places, row))
                for time in range(4):
                    marks = sorted(chance.sample(range(len(row)), chance.randrange(len(row) + 1)))
                    most = bound(shelves, places, row, marks)
                    for order in orders:
                        self.assertLessEqual(len(row) - misses_by(shelves, places, row, order), most)


class MarksOf(unittest.TestCase):
    def check_marks(self, shelves, places, row):
        before = list(row)
        marks = marks_of(shelves, places, row)
        self.assertEqual(row, before)
        self.assertIs(type(marks), list)
        for mark in marks:
            self.assertIs(type(mark), int)
            self.assertIn(mark, range(len(row)))
        self.assertEqual(marks, sorted(set(marks)))
        return marks

    def test_the_empty_row(self):
        for shelves, places in [(1, 1), (64, 16)]:
            with self.subTest(shelves=shelves, places=places):
                self.assertEqual(marks_of(shelves, places, []), [])

    def test_against_all_lists_of_marks_of_every_short_row(self):
        for shelves, places in [(1, 1), (1, 2), (2, 1), (2, 2)]:
            for row in itertools.product([0, 1, 2], repeat=6):
                row = list(row)
                least = min(bound_by_hand(shelves, places, row, marks) for marks in all_marks(row))
                told = bound(shelves, places, row, self.check_marks(shelves, places, row))
                if told != least:
                    self.fail(f"{shelves} shelves, {places} places, {row}: {told}, not {least}")

    def test_against_all_lists_of_marks_of_some_longer_rows(self):
        chance = random.Random(14)
        for shelves, places, many in [(1, 1, 3), (1, 2, 4), (1, 3, 5), (2, 2, 7), (3, 1, 6), (1, 16, 3)]:
            for time in range(4):
                row = [chance.randrange(many) for place in range(10)]
                with self.subTest(shelves=shelves, places=places, row=row):
                    least = min(bound(shelves, places, row, marks) for marks in all_marks(row))
                    self.assertEqual(bound(shelves, places, row, self.check_marks(shelves, places, row)), least)

    def test_least_misses_is_the_length_less_the_bound(self):
        for shelves in [1, 2, 5, 64]:
            for places in range(1, 17):
                for row in some_rows():
                    with self.subTest(shelves=shelves, places=places, row=row):
                        most = bound(shelves, places, row, self.check_marks(shelves, places, row))
                        self.assertEqual(len(row) - most, least_misses(shelves, places, row))

    def test_rows_of_400(self):
        for shelves in [1, 7, 64]:
            for places in range(1, 17):
                for at, row in enumerate(long_rows()):
                    with self.subTest(shelves=shelves, places=places, at=at):
                        most = bound(shelves, places, row, self.check_marks(shelves, places, row))
                        self.assertEqual(400 - most, least_misses(shelves, places, row))

    def test_the_list_is_the_asker_s_own(self):
        row = [0, 1, 2, 0, 1, 2]
        first = marks_of(1, 2, row)
        second = marks_of(1, 2, row)
        kept = list(second)
        self.assertEqual(first, second)
        self.assertIsNot(first, second)
        first.append(99)
        self.assertEqual(second, kept)
        row.clear()
        self.assertEqual(second, kept)
        self.assertEqual(marks_of(1, 2, [0, 1, 2, 0, 1, 2]), kept)


class ShowsLeast(unittest.TestCase):
    ROW = [0, 1, 2, 0, 1, 2]
    ORDER = [None, None, 1, None, 0, None]
    MARKS = [2, 3]

    OTHER_THINGS = [
        None, True, False, 0, 1, -1, 2, 10 ** 30, "", "[]", "23", (), ((),), [[]], [()], [None], (None,), ["2"],
        [[2, 3]], [(2, 3)], [2, [3]], [2, (3,)], [None] * 6, [None] * 10000, [0] * 10000, list(range(10000)),
        [[[[[[[[]]]]]]]],
    ]

    def check(self, told, shelves, places, row, order, marks):
        before = copy.deepcopy([row, order, marks])
        for time in range(2):
            answer = shows_least(shelves, places, row, order, marks)
            if answer is not told:
                self.fail(f"shows_least({shelves}, {places}, {row}, {order}, {marks}) told {answer}")
        if [row, order, marks] != before:
            self.fail(f"{before} was made {[row, order, marks]}")

    def check_farthest(self, shelves, places, row):
        self.check(True, shelves, places, row, farthest(shelves, places, row), marks_of(shelves, places, row))

    def test_by_hand(self):
        # Two of the three returns can be found; a mark at place 2 or 3 parts two of them for one.
        self.assertEqual(bound(1, 2, self.ROW, self.MARKS), 2)
        self.check(True, 1, 2, self.ROW, self.ORDER, self.MARKS)
        self.check(True, 1, 2, self.ROW, self.ORDER, [2])
        self.check(True, 1, 2, self.ROW, self.ORDER, [3])
        self.check(True, 1, 2, self.ROW, [None, None, 1, None, 0, None], marks_of(1, 2, self.ROW))
        self.check(True, 1, 1, [], [], [])
        self.check(True, 1, 1, [4], [None], [])
        self.check(True, 1, 1, [4], [None], [0])
        self.check(True, 1, 1, [4, 4], [None, None], [0, 1])
        self.check(True, 1, 1, [4, 5, 4], [None, 4, 5], [1])
        self.check(True, 2, 1, [4, 5, 4], [None, None, None], [])

    def test_farthest_with_marks_of(self):
        for shelves in [1, 2, 5, 64]:
            for places in range(1, 17):
                for row in some_rows():
                    self.check_farthest(shelves, places, row)

    def test_farthest_with_marks_of_rows_of_400(self):
        for shelves, places in [(1, 1), (1, 4), (1, 16), (6, 2), (64, 16)]:
            for row in long_rows():
                self.check_farthest(shelves, places, row)

    def test_every_pair_of_a_short_row(self):
        for shelves, places, row in [(1, 2, [0, 1, 2, 0, 1]), (1, 1, [0, 1, 0, 0]), (2, 1, [0, 2, 1, 0, 1])]:
            least = least_misses(shelves, places, row)
            for order in itertools.product([None, 0, 1, 2], repeat=len(row)):
                order = list(order)
                fitting = fits(shelves, places, row, order) and misses_by(shelves, places, row, order) == least
                for marks in all_marks(row):
                    most = bound_by_hand(shelves, places, row, marks)
                    told = shows_least(shelves, places, row, order, marks)
                    if told is not (fitting and len(row) - most == least):
                        self.fail(f"shows_least({shelves}, {places}, {row}, {order}, {marks}) told {told}")

    def test_an_order_that_does_not_fit(self):
        wrong = [
            self.ORDER[:-1],
            self.ORDER + [None],
            [None, None, None, None, 0, None],
            [None, None, 1, None, 1, None],
            [None, None, True, None, 0, None],
            [None, None, 1, None, False, None],
            [None, None, "1", None, 0, None],
            [None, None, 1, 0, 0, None],
            tuple(self.ORDER),
            [self.ORDER],
        ]
        for order in wrong + self.OTHER_THINGS:
            for marks in [self.MARKS, [2], marks_of(1, 2, self.ROW)]:
                self.check(False, 1, 2, self.ROW, order, marks)

    def test_an_order_that_misses_more(self):
        order = [None, None, 0, 1, 2, 0]
        self.assertEqual(misses_by(1, 2, self.ROW, order), 6)
        self.check(False, 1, 2, self.ROW, order, self.MARKS)
        self.check(False, 1, 2, self.ROW, order, marks_of(1, 2, self.ROW))

    def test_a_bound_that_is_greater(self):
        for marks in [[], [0], [1], [4], [5], [1, 4], [2, 3, 4], [0, 2, 3], [0, 1, 2, 3, 4, 5]]:
            self.assertGreater(bound(1, 2, self.ROW, marks), 2)
            self.check(False, 1, 2, self.ROW, self.ORDER, marks)

    def test_an_order_that_misses_more_is_shown_by_no_marks(self):
        order = [None, None, 0, 1, 2, 0]
        for marks in all_marks(self.ROW):
            self.check(False, 1, 2, self.ROW, order, marks)

    def test_marks_that_are_no_such_list(self):
        wrong = [
            [3, 2], [2, 2], [3, 3], [2, 3, 3], [2, 2, 3], [2, 6], [6], [7], [2, 10 ** 30], [-1], [-1, 2], [-4, 3], [-3],
            [True, 2, 3], [False, 2, 3], [False], [True], ["2"], ["2", "3"], [2, "3"], [None], [2, None], [None, 3],
            [[2]], [(2,)], [2, [3]], (2, 3), (2,), ((2, 3),), "", "2", "23", None, True, False, 0, 2, 3,
        ]
        for marks in wrong:
            self.check(False, 1, 2, self.ROW, self.ORDER, marks)

    def test_wrong_marks_whose_bound_would_be_right(self):
        # Where places is 1 a mark costs nothing: the list's own form alone is wrong.
        row, order = [4, 5, 6, 4], [None, 4, 5, 6]
        self.check(True, 1, 1, row, order, [0, 1, 2, 3])
        self.check(True, 1, 1, row, order, [1])
        wrong = [[2, 1], [1, 1], [1, 4], [1, 400], [-1, 1], [True], [False, 1], [1, True], [0, True], [True, 2], (1,),
                 [1, None], [None, 1], [1, "2"], [1, [2]], [1, (2,)], (0, 1, 2, 3), [3, 2, 1, 0], [0, 1, 2, 3, 4],
                 [-2], [-3], [-2, 1]]
        for marks in wrong:
            self.check(False, 1, 1, row, order, marks)

    def test_the_empty_row(self):
        self.check(True, 1, 1, [], [], [])
        for thing in self.OTHER_THINGS:
            self.check(False, 1, 1, [], [], thing)
            self.check(False, 1, 1, [], thing, [])

    def test_other_things_altogether(self):
        for thing in self.OTHER_THINGS:
            self.check(False, 1, 2, self.ROW, self.ORDER, thing)
            self.check(False, 1, 2, self.ROW, thing, self.MARKS)
            self.check(False, 1, 2, self.ROW, thing, thing)

    def test_order_and_marks_changed_about(self):
        self.check(False, 1, 2, self.ROW, self.MARKS, self.ORDER)
        self.check(False, 1, 2, self.ROW, self.ORDER, self.ORDER)
        self.check(False, 1, 2, self.ROW, self.ROW, self.ROW)


if __name__ == "__main__":
    unittest.main()
