"""Points [7] and [8]: rows of boards, asked of an empty room, and told ahead by old; with point [2] over them."""

import random
import unittest

from nearstairs.rooms import Room
from nearstairs.rows import beneath, curve, misses, run_row

RULES = ["old", "come", "few"]

DOC_ROW = [1, 2, 3, 4, 1, 2, 5, 1, 2, 3, 4, 5]


def some_rows():
    """Rows of many kinds: empty, of one board, straight behind one another, on one shelf, on many, long."""
    chance = random.Random(8)
    rows = [[], [0], [9999], [7, 7], [7, 7, 7, 7], [1, 2, 1, 2], [1, 1, 2, 2, 1, 1], [0, 64, 128, 0, 64, 128]]
    rows += [list(DOC_ROW), list(range(40)) + list(range(40)), [0, 9999] * 10]
    for many in [2, 3, 5, 9, 20]:
        rows.append([chance.randrange(many) for place in range(60)])
    rows.append([chance.randrange(30) * 64 for place in range(60)])
    rows.append([chance.randrange(30) * 8 + chance.randrange(2) for place in range(80)])
    return rows


def long_rows():
    chance = random.Random(80)
    rows = [[5] * 400, list(range(400)), list(range(20)) * 20, [board * 64 for board in range(20)] * 20]
    for many in [4, 17, 40, 200, 10000]:
        rows.append([chance.randrange(many) for place in range(400)])
    return rows


def by_hand(shelves, places, rule, row):
    """What run_row must tell, each step reckoned anew from the row alone, without any room."""
    # For each board that is there: the place it was brought at, and the places at which it was found since.
    there = {}
    told = []
    for at, board in enumerate(row):
        if board in there:
            there[board].append(at)
            told.append((True, None))
            continue
        mates = [other for other in there if other % shelves == board % shelves]
        out = None
        if len(mates) == places:
            ranks = {"old": lambda other: there[other][-1],
                     "come": lambda other: there[other][0],
                     "few": lambda other: (len(there[other]), there[other][0])}
            out = min(mates, key=ranks[rule])
            del there[out]
        there[board] = [at]
        told.append((False, out))
    return told


def beneath_by_hand(shelves, row):
    told = []
    for at, board in enumerate(row):
        ahead = [place for place in range(at) if row[place] == board]
        if not ahead:
            told.append(None)
            continue
        told.append(len({other for other in row[ahead[-1] + 1:at] if other % shelves == board % shelves}))
    return told


class RunRow(unittest.TestCase):
    def check_run(self, shelves, places, rule, row):
        told = run_row(shelves, places, rule, row)
        # Python's own telling of how two long lists differ takes minutes.
        if told != by_hand(shelves, places, rule, row):
            self.fail(f"run_row({shelves}, {places}, {rule}, {row}) told {told}")

    def test_the_empty_row(self):
        for rule in RULES:
            with self.subTest(rule=rule):
                self.assertEqual(run_row(1, 1, rule, []), [])
                self.assertEqual(run_row(64, 16, rule, []), [])

    def test_one_board(self):
        for rule in RULES:
            with self.subTest(rule=rule):
                self.assertEqual(run_row(1, 1, rule, [3]), [(False, None)])

    def test_straight_behind_itself(self):
        for rule in RULES:
            for places in [1, 2, 16]:
                with self.subTest(rule=rule, places=places):
                    self.assertEqual(run_row(1, places, rule, [3, 3, 3]),
                                     [(False, None), (True, None), (True, None)])

    def test_one_place(self):
        for rule in RULES:
            with self.subTest(rule=rule):
                self.assertEqual(run_row(1, 1, rule, [0, 1, 1, 0]),
                                 [(False, None), (False, 0), (True, None), (False, 1)])

    def test_each_rule_by_hand(self):
        row = [1, 2, 1, 3, 1, 4, 2]
        told = {
            "old": [(False, None), (False, None), (True, None), (False, 2), (True, None), (False, 3), (False, 1)],
            "come": [(False, None), (False, None), (True, None), (False, 1), (False, 2), (False, 3), (False, 1)],
            "few": [(False, None), (False, None), (True, None), (False, 2), (True, None), (False, 3), (False, 4)],
        }
        for rule in RULES:
            with self.subTest(rule=rule):
                self.assertEqual(run_row(1, 2, rule, row), told[rule])

    def test_many_shelves_by_hand(self):
        self.assertEqual(run_row(2, 1, "old", [0, 1, 2, 1, 0, 3]),
                         [(False, None), (False, None), (False, 0), (True, None), (False, 2), (False, 1)])
        self.assertEqual(run_row(64, 1, "few", [0, 64, 1, 65, 63, 1]),
                         [(False, None), (False, 0), (False, None), (False, 1), (False, None), (False, 65)])

    def test_against_a_run_by_hand(self):
        for rule in RULES:
            for shelves, places in [(1, 1), (1, 2), (1, 5), (1, 16), (2, 1), (3, 4), (8, 2), (64, 1), (64, 16)]:
                for row in some_rows():
                    self.check_run(shelves, places, rule, row)

    def test_rows_of_400(self):
        for rule in RULES:
            for shelves, places in [(1, 1), (1, 16), (4, 3), (64, 16)]:
                for row in long_rows():
                    self.check_run(shelves, places, rule, row)

    def test_tells_a_list_of_pairs(self):
        for rule in RULES:
            with self.subTest(rule=rule):
                told = run_row(1, 2, rule, [0, 1, 2, 2, 0])
                self.assertIs(type(told), list)
                for pair in told:
                    self.assertIs(type(pair), tuple)
                    self.assertIs(type(pair[0]), bool)
                    self.assertIn(type(pair[1]), [int, type(None)])

    def test_the_list_is_the_asker_s_own_and_the_room_new_each_time(self):
        for rule in RULES:
            with self.subTest(rule=rule):
                first = run_row(1, 2, rule, DOC_ROW)
                second = run_row(1, 2, rule, DOC_ROW)
                self.assertEqual(first, second)
                self.assertIsNot(first, second)
                first.clear()
                self.assertEqual(second, run_row(1, 2, rule, DOC_ROW))


class Misses(unittest.TestCase):
    def test_the_document_s_own_row(self):
        self.assertEqual(misses(1, 3, "come", DOC_ROW), 9)
        self.assertEqual(misses(1, 4, "come", DOC_ROW), 10)

    def test_by_hand(self):
        for rule, many in [("old", 5), ("come", 6), ("few", 5)]:
            with self.subTest(rule=rule):
                self.assertEqual(misses(1, 2, rule, [1, 2, 1, 3, 1, 4, 2]), many)
                self.assertEqual(misses(1, 2, rule, []), 0)
                self.assertEqual(misses(1, 1, rule, [4, 4, 4]), 1)
                self.assertEqual(misses(64, 16, rule, list(range(400))), 400)

    def test_is_what_run_row_has_as_not_found(self):
        for rule in RULES:
            for shelves, places in [(1, 1), (1, 3), (1, 16), (3, 2), (64, 1), (64, 16)]:
                for row in some_rows() + long_rows():
                    with self.subTest(rule=rule, shelves=shelves, places=places, row=row):
                        told = misses(shelves, places, rule, row)
                        self.assertIs(type(told), int)
                        founds = [found for found, out in run_row(shelves, places, rule, row)]
                        self.assertEqual(told, founds.count(False))


class Beneath(unittest.TestCase):
    def test_by_hand(self):
        rows = [
            (1, [], []),
            (1, [5], [None]),
            (1, [5, 5], [None, 0]),
            (1, [5, 5, 5], [None, 0, 0]),
            (1, [0, 1, 0], [None, None, 1]),
            (1, [0, 1, 1, 0], [None, None, 0, 1]),
            (1, [0, 1, 2, 1, 0, 0], [None, None, None, 1, 2, 0]),
            (1, [3, 1, 2, 3, 1, 3], [None, None, None, 2, 2, 1]),
            (2, [0, 1, 0], [None, None, 0]),
            (2, [0, 1, 2, 3, 0, 1], [None, None, None, None, 1, 1]),
            (3, [0, 3, 1, 6, 4, 0, 1], [None, None, None, None, None, 2, 1]),
            (64, [0, 64, 1, 0], [None, None, None, 1]),
            (64, [0, 63, 1, 0], [None, None, None, 0]),
        ]
        for shelves, row, told in rows:
            with self.subTest(shelves=shelves, row=row):
                self.assertEqual(beneath(shelves, row), told)

    def test_against_a_count_by_hand(self):
        for shelves in [1, 2, 3, 8, 64]:
            for row in some_rows() + long_rows():
                with self.subTest(shelves=shelves, row=row):
                    self.assertEqual(beneath(shelves, row), beneath_by_hand(shelves, row))

    def test_none_at_each_board_s_first_place_and_there_alone(self):
        for shelves in [1, 5, 64]:
            for row in some_rows():
                with self.subTest(shelves=shelves, row=row):
                    firsts = [row.index(board) == at for at, board in enumerate(row)]
                    self.assertEqual([many is None for many in beneath(shelves, row)], firsts)

    def test_by_old_a_board_is_found_just_where_it_is_less_than_places(self):
        for shelves in [1, 2, 8, 64]:
            for places in [1, 2, 3, 7, 16]:
                for row in some_rows() + long_rows():
                    with self.subTest(shelves=shelves, places=places, row=row):
                        found = [many is not None and many < places for many in beneath(shelves, row)]
                        self.assertEqual(found, [pair[0] for pair in run_row(shelves, places, "old", row)])

    def test_tells_a_list_of_its_own(self):
        first = beneath(1, DOC_ROW)
        second = beneath(1, DOC_ROW)
        self.assertIs(type(first), list)
        self.assertEqual(first, second)
        first[4] = 77
        first.pop()
        self.assertEqual(second, beneath(1, DOC_ROW))


class Curve(unittest.TestCase):
    def test_by_hand(self):
        self.assertEqual(curve(1, DOC_ROW, 5), [12, 12, 10, 8, 5])
        self.assertEqual(curve(1, [], 3), [0, 0, 0])
        self.assertEqual(curve(1, [4, 4], 2), [1, 1])
        self.assertEqual(curve(1, [0, 1, 0, 1], 1), [4])
        self.assertEqual(curve(1, [0, 1, 0, 1], 2), [4, 2])
        self.assertEqual(curve(2, [0, 1, 0, 1], 2), [2, 2])

    def test_is_misses_by_old(self):
        for shelves in [1, 2, 5, 64]:
            for row in some_rows() + long_rows():
                with self.subTest(shelves=shelves, row=row):
                    self.assertEqual(curve(shelves, row, 16),
                                     [misses(shelves, places, "old", row) for places in range(1, 17)])

    def test_every_most(self):
        for row in some_rows() + long_rows()[-2:]:
            for shelves in [1, 3]:
                whole = curve(shelves, row, 16)
                for most in range(1, 17):
                    with self.subTest(shelves=shelves, most=most, row=row):
                        self.assertEqual(curve(shelves, row, most), whole[:most])

    def test_never_rises(self):
        for shelves in [1, 2, 8, 64]:
            for row in some_rows() + long_rows():
                with self.subTest(shelves=shelves, row=row):
                    told = curve(shelves, row, 16)
                    self.assertEqual(told, sorted(told, reverse=True))

    def test_tells_a_list_of_its_own(self):
        first = curve(1, DOC_ROW, 4)
        second = curve(1, DOC_ROW, 4)
        self.assertIs(type(first), list)
        self.assertEqual({type(many) for many in first}, {int})
        first.clear()
        self.assertEqual(second, curve(1, DOC_ROW, 4))


class MorePlaces(unittest.TestCase):
    def test_by_old_the_greater_room_holds_all_that_the_smaller_one_holds(self):
        for shelves in [1, 2, 8]:
            for row in some_rows() + long_rows()[-3:]:
                rooms = [Room(shelves, places, "old") for places in range(1, 17)]
                for board in row:
                    for room in rooms:
                        if room.has(board):
                            room.use(board)
                        else:
                            room.bring(board)
                    held = [set(room.boards()) for room in rooms]
                    for smaller, greater in zip(held, held[1:]):
                        if not smaller <= greater:
                            self.fail(f"{shelves} shelves, {row}: {smaller} isn't within {greater}")


class HandedIn(unittest.TestCase):
    def test_the_row_stays_as_it_was(self):
        for rule in RULES:
            for row in some_rows():
                with self.subTest(rule=rule, row=row):
                    before = list(row)
                    run_row(2, 2, rule, row)
                    misses(2, 2, rule, row)
                    beneath(2, row)
                    curve(2, row, 5)
                    self.assertEqual(row, before)

    def test_what_is_done_to_the_row_later_changes_nothing_told(self):
        row = [1, 2, 1, 3]
        told = [run_row(1, 2, "old", row), beneath(1, row), curve(1, row, 2)]
        row[:] = [9] * 6
        row = [1, 2, 1, 3]
        self.assertEqual(told, [run_row(1, 2, "old", row), beneath(1, row), curve(1, row, 2)])


if __name__ == "__main__":
    unittest.main()
