"""Point [9]: orders of driving out, and the least misses; with point [2] over them."""

import copy
import itertools
import random
import unittest

from nearstairs.errors import NoFit
from nearstairs.least import farthest, fits, least_misses, misses_by
from nearstairs.rows import misses, run_row

RULES = ["old", "come", "few"]

OTHER_THINGS = [
    None, True, False, 0, 1, -1, 5, 10 ** 30, "", "None", "[]", (), ((),), [[]], [()], [None], (None,), [True], [False],
    ["0"], [0], [1], [[None]], [(None,)], [None] * 10000, [0] * 10000, (None,) * 4, [[[[[[[[]]]]]]]], ((((((((),))))))),
]


def some_rows():
    chance = random.Random(9)
    rows = [[], [0], [3, 3], [1, 0, 1, 0], [0, 1, 2, 0, 1, 2], [0, 1, 2, 3, 2, 1, 0]]
    rows.append([1, 2, 3, 4, 1, 2, 5, 1, 2, 3, 4, 5])
    for many in [2, 3, 4, 6, 12]:
        for long in [8, 20, 50]:
            rows.append([chance.randrange(many) for place in range(long)])
    rows.append([chance.randrange(12) * 64 for place in range(40)])
    return rows


def long_rows():
    chance = random.Random(90)
    rows = [[5] * 400, list(range(400)), list(range(20)) * 20]
    for many in [4, 25, 120, 10000]:
        rows.append([chance.randrange(many) for place in range(400)])
    return rows


def ways(shelves, places, there, board):
    """All things that may go where a board is asked for, as the document's sentence has it."""
    mates = [other for other in there if other % shelves == board % shelves]
    if board in there or len(mates) < places:
        return [None]
    return mates


def all_orders(shelves, places, row):
    """Every order that fits, with its misses."""
    found = [([], frozenset(), 0)]
    for board in row:
        more = []
        for order, there, missed in found:
            for out in ways(shelves, places, there, board):
                more.append((order + [out], there - {out} | {board}, missed + (board not in there)))
        found = more
    return [(order, missed) for order, there, missed in found]


def same(one, other):
    """Whether two orders are alike, True and 1 being unlike."""
    return [(type(thing), thing) for thing in one] == [(type(thing), thing) for thing in other]


def farthest_by_hand(shelves, places, row):
    there = set()
    order = []
    for at, board in enumerate(row):
        mates = ways(shelves, places, there, board)
        out = None
        if mates != [None]:
            rest = row[at + 1:]
            never = [mate for mate in mates if mate not in rest]
            out = max(never) if never else max(mates, key=rest.index)
        order.append(out)
        there = there - {out} | {board}
    return order


def with_one_otherwise(row, order):
    """Lists with one thing otherwise than the order has it; none of them may be the order itself."""
    wrong = []
    things = [None, True, False, "", "1", [], [0], (0,), -1, 10 ** 30] + sorted(set(row)) + [max(row, default=0) + 1]
    for at in range(len(order)):
        wrong.append(order[:at] + order[at + 1:])
        wrong.append(order[:at + 1] + order[at:])
        wrong.append(order[:at] + [[order[at]]] + order[at + 1:])
        wrong.append(order[:at] + [(order[at],)] + order[at + 1:])
        wrong.append(order[:at] + [str(order[at])] + order[at + 1:])
        for thing in things:
            wrong.append(order[:at] + [thing] + order[at + 1:])
    wrong += [order + [None], [None] + order, order + [0], order + order, tuple(order), [order], order[::-1]]
    return [thing for thing in wrong if not (isinstance(thing, list) and same(thing, order))]


class Checks(unittest.TestCase):
    def check_fits(self, shelves, places, row, order, missed):
        """Missed: how many, or None where the order doesn't fit."""
        row_before, order_before = list(row), copy.deepcopy(order)
        told = fits(shelves, places, row, order)
        if told is not (missed is not None):
            self.fail(f"fits({shelves}, {places}, {row}, {order}) told {told}")
        if missed is None:
            with self.assertRaises(NoFit) as caught:
                misses_by(shelves, places, row, order)
            self.assertIs(type(caught.exception), NoFit)
        else:
            many = misses_by(shelves, places, row, order)
            if many != missed or type(many) is not int:
                self.fail(f"misses_by({shelves}, {places}, {row}, {order}) told {many}")
        self.assertEqual(row, row_before)
        self.assertEqual(order, order_before)


class Fits(Checks):
    def test_by_hand(self):
        rows = [
            (1, 1, [], [], 0),
            (1, 1, [5], [None], 1),
            (1, 1, [5, 5], [None, None], 1),
            (1, 1, [5, 6, 5], [None, 5, 6], 3),
            (1, 2, [0, 1, 2, 0, 1], [None, None, 1, None, 0], 4),
            (1, 2, [0, 1, 2, 0, 1], [None, None, 0, 1, 2], 5),
            (1, 2, [0, 1, 2, 0, 1], [None, None, 1, None, 2], 4),
            (2, 1, [0, 1, 2, 0, 1], [None, None, 0, 2, None], 4),
            (64, 1, [0, 64, 1, 0], [None, 0, None, 64], 4),
        ]
        for shelves, places, row, order, missed in rows:
            with self.subTest(row=row, order=order):
                self.check_fits(shelves, places, row, order, missed)

    def test_one_thing_otherwise_by_hand(self):
        row = [0, 1, 2, 0, 1]
        self.check_fits(1, 2, row, [None, None, 1, None, 0], 4)
        wrong = [
            [None, None, 1, None],
            [None, None, 1, None, 0, None],
            [None, None, 1, None, 0, 0],
            [None, None, 1, 1, 0],
            [None, None, 1, 0, 0],
            [None, None, 1, 2, 0],
            [None, None, None, None, 0],
            [None, None, 1, None, None],
            [None, None, 2, None, 0],
            [None, None, 1, None, 1],
            [None, None, 3, None, 0],
            [None, None, -1, None, 0],
            [None, 0, 1, None, 0],
            [0, None, 1, None, 0],
            [None, None, True, None, 0],
            [None, None, 1, None, False],
            [False, None, 1, None, 0],
            [None, None, 1, False, 0],
            [None, None, "1", None, 0],
            [None, None, 1, None, "0"],
            [None, None, 1, "", 0],
            [None, None, [1], None, 0],
            [None, None, (1,), None, 0],
            [None, None, 1, [], 0],
            (None, None, 1, None, 0),
            [[None, None, 1, None, 0]],
            "NN1N0",
            None, True, False, 0, 4, 5, [], (), "",
        ]
        for order in wrong:
            with self.subTest(order=order):
                self.check_fits(1, 2, row, order, None)

    def test_a_board_of_another_shelf(self):
        row = [0, 1, 2, 3, 4]
        self.check_fits(2, 1, row, [None, None, 0, 1, 2], 5)
        for order in [[None, None, 1, 1, 2], [None, None, 0, 2, 2], [None, None, 0, 1, 3], [None, None, 1, 0, 2]]:
            with self.subTest(order=order):
                self.check_fits(2, 1, row, order, None)

    def test_a_board_that_went_is_there_no_more(self):
        self.check_fits(1, 2, [0, 1, 2, 3], [None, None, 0, 0], None)
        self.check_fits(1, 2, [0, 1, 2, 3], [None, None, 0, 1], 4)
        self.check_fits(1, 2, [0, 1, 2, 3], [None, None, 0, 2], 4)

    def test_the_one_asked_for_does_not_go_itself(self):
        self.check_fits(1, 1, [0, 1], [None, 1], None)
        self.check_fits(1, 2, [0, 1, 0], [None, None, 0], None)
        self.check_fits(1, 1, [3], [3], None)

    def test_true_and_false_for_the_boards_1_and_0(self):
        for places in [1, 2]:
            row = [0, 1, 2, 3][:places + 1]
            for board, truth in [(0, False), (1, True)][:places]:
                with self.subTest(places=places, board=board):
                    self.check_fits(1, places, row, [None] * places + [board], places + 1)
                    self.check_fits(1, places, row, [None] * places + [truth], None)

    def test_every_list_of_short_rows(self):
        for shelves, places in [(1, 1), (1, 2), (2, 1)]:
            for row in itertools.chain(*[itertools.product([0, 1, 2], repeat=long) for long in range(5)]):
                row = list(row)
                orders = all_orders(shelves, places, row)
                for order in itertools.product([None, 0, 1, 2, True, False], repeat=len(row)):
                    order = list(order)
                    missed = [many for other, many in orders if same(order, other)]
                    told = fits(shelves, places, row, order)
                    if told is not (missed != []):
                        self.fail(f"fits({shelves}, {places}, {row}, {order}) told {told}")

    def test_every_order_that_fits_and_with_one_thing_otherwise(self):
        chance = random.Random(5)
        for shelves, places in [(1, 1), (1, 2), (1, 3), (2, 2), (3, 1)]:
            for row in [[0, 1, 2, 3, 0, 1], [1, 0, 2, 1, 0, 3], [0, 3, 6, 1, 0, 4, 3]]:
                orders = all_orders(shelves, places, row)
                fitting = [order for order, missed in orders]
                for order, missed in chance.sample(orders, min(6, len(orders))):
                    self.check_fits(shelves, places, row, order, missed)
                    for wrong in with_one_otherwise(row, order):
                        if isinstance(wrong, list) and any(same(wrong, other) for other in fitting):
                            continue
                        self.check_fits(shelves, places, row, wrong, None)

    def test_what_the_rules_drive_out_fits(self):
        for rule in RULES:
            for shelves, places in [(1, 1), (1, 3), (1, 16), (4, 2), (64, 16)]:
                for row in some_rows() + long_rows():
                    with self.subTest(rule=rule, shelves=shelves, places=places, row=row):
                        order = [out for found, out in run_row(shelves, places, rule, row)]
                        self.check_fits(shelves, places, row, order, misses(shelves, places, rule, row))

    def test_other_things_altogether(self):
        for row in [[0, 1, 0, 2], [1, 2, 3], [0], [1, 1]]:
            for thing in OTHER_THINGS:
                if thing == [None] * len(row):
                    continue
                with self.subTest(row=row):
                    self.check_fits(1, 1, row, thing, None)

    def test_of_the_empty_row_the_empty_list_alone(self):
        self.check_fits(1, 1, [], [], 0)
        for thing in OTHER_THINGS:
            self.check_fits(1, 1, [], thing, None)

    def test_the_row_itself_handed_in_as_its_order(self):
        row = [0, 1, 2]
        self.check_fits(1, 1, row, row, None)
        empty = []
        self.check_fits(1, 1, empty, empty, 0)


class Farthest(Checks):
    def test_by_hand(self):
        rows = [
            (1, 1, [], []),
            (1, 1, [0, 1, 0], [None, 0, 1]),
            (1, 2, [0, 1, 2, 0, 1], [None, None, 1, None, 2]),
            (1, 2, [0, 1, 2, 1, 0], [None, None, 0, None, 2]),
            (1, 3, [1, 2, 3, 4, 1, 2, 5, 1, 2, 3, 4, 5],
             [None, None, None, 3, None, None, 4, None, None, 2, 3, None]),
            (2, 1, [0, 1, 2, 3, 0], [None, None, 0, 1, 2]),
        ]
        for shelves, places, row, order in rows:
            with self.subTest(row=row):
                self.assertEqual(farthest(shelves, places, row), order)

    def test_of_those_never_asked_for_again_the_greatest_number(self):
        for boards in itertools.permutations([3, 7, 5]):
            with self.subTest(boards=boards):
                self.assertEqual(farthest(1, 3, list(boards) + [1]), [None, None, None, 7])
                self.assertEqual(farthest(1, 3, list(boards) + [1, 2, 0]), [None, None, None, 7, 5, 3])
                self.assertEqual(farthest(1, 3, list(boards) + [9, 8]), [None, None, None, 7, 9])

    def test_one_never_asked_for_again_goes_ahead_of_all_others(self):
        # Board 9 is asked for again at the very last place, board 0 never.
        self.assertEqual(farthest(1, 2, [9, 0, 5, 5, 5, 9]), [None, None, 0, None, None, None])
        self.assertEqual(farthest(1, 2, [0, 9, 5, 5, 5, 0]), [None, None, 9, None, None, None])

    def test_a_board_found_is_asked_for_again_behind_that_place(self):
        # Board 0 is asked for at place 2, and never behind it.
        self.assertEqual(farthest(1, 2, [0, 1, 0, 2, 1]), [None, None, None, 0, None])

    def test_against_the_document_s_sentence(self):
        for shelves, places in [(1, 1), (1, 2), (1, 3), (1, 16), (2, 2), (5, 1), (64, 16)]:
            for row in some_rows() + long_rows():
                with self.subTest(shelves=shelves, places=places, row=row):
                    self.assertEqual(farthest(shelves, places, row), farthest_by_hand(shelves, places, row))

    def test_fits(self):
        for shelves in [1, 2, 5, 64]:
            for places in [1, 2, 3, 8, 16]:
                for row in some_rows() + long_rows():
                    with self.subTest(shelves=shelves, places=places, row=row):
                        self.check_fits(shelves, places, row, farthest(shelves, places, row),
                                        least_misses(shelves, places, row))

    def test_tells_a_list_of_its_own(self):
        row = [0, 1, 2, 0, 1]
        first = farthest(1, 2, row)
        second = farthest(1, 2, row)
        self.assertIs(type(first), list)
        self.assertEqual({type(thing) for thing in first}, {int, type(None)})
        self.assertIsNot(first, second)
        first.clear()
        self.assertEqual(second, farthest(1, 2, row))
        row.clear()
        self.assertEqual(len(second), 5)

    def test_the_row_stays_as_it_was(self):
        for row in some_rows():
            before = list(row)
            farthest(2, 2, row)
            least_misses(2, 2, row)
            self.assertEqual(row, before)


class LeastMisses(unittest.TestCase):
    def test_by_hand(self):
        rows = [
            (1, 1, [], 0),
            (1, 1, [4], 1),
            (1, 1, [4, 4, 4], 1),
            (1, 1, [0, 1, 0, 1], 4),
            (1, 2, [0, 1, 0, 1], 2),
            (1, 2, [0, 1, 2, 0, 1, 2], 4),
            (1, 3, [1, 2, 3, 4, 1, 2, 5, 1, 2, 3, 4, 5], 7),
            (1, 4, [1, 2, 3, 4, 1, 2, 5, 1, 2, 3, 4, 5], 6),
            (2, 1, [0, 1, 0, 1], 2),
            (64, 16, list(range(400)), 400),
        ]
        for shelves, places, row, many in rows:
            with self.subTest(row=row):
                told = least_misses(shelves, places, row)
                self.assertEqual(told, many)
                self.assertIs(type(told), int)

    def test_against_all_orders_of_every_short_row(self):
        for shelves, places in [(1, 1), (1, 2), (1, 3), (2, 1), (2, 2)]:
            for row in itertools.product([0, 1, 2, 3], repeat=6):
                row = list(row)
                least = min(missed for order, missed in all_orders(shelves, places, row))
                if least_misses(shelves, places, row) != least:
                    self.fail(f"least_misses({shelves}, {places}, {row}) isn't {least}")

    def test_against_all_orders_of_some_longer_rows(self):
        chance = random.Random(6)
        for shelves, places, many in [(1, 2, 5), (1, 3, 6), (2, 2, 8)]:
            for time in range(15):
                row = [chance.randrange(many) for place in range(9)]
                with self.subTest(shelves=shelves, places=places, row=row):
                    least = min(missed for order, missed in all_orders(shelves, places, row))
                    self.assertEqual(least_misses(shelves, places, row), least)

    def test_no_rule_misses_less(self):
        for shelves, places in [(1, 1), (1, 3), (1, 16), (4, 2), (64, 16)]:
            for row in some_rows() + long_rows():
                least = least_misses(shelves, places, row)
                for rule in RULES:
                    with self.subTest(rule=rule, shelves=shelves, places=places, row=row):
                        self.assertLessEqual(least, misses(shelves, places, rule, row))


if __name__ == "__main__":
    unittest.main()
