"""Point [15]: the stairs in which boards are found, told ahead; with point [2] over it."""

import random
import unittest

from nearstairs.ahead import founds, missed_by_stair
from nearstairs.rows import misses
from nearstairs.stairs import Stairs

from by_hand import KINDS, RULES, WRITINGS, drawn_boards, drawn_plans


def reads_tell(plan, row):
    """The stairs that reads of the boards tell in new Stairs, each at another of its spots."""
    stairs = Stairs(plan)
    told = []
    for at, board in enumerate(row):
        events = stairs.read(board * plan[0] + at % plan[0])[1]
        told += [event[1] for event in events if event[0] == "found"]
    return told


def runs():
    """Pairs of a plan and a row."""
    chance = random.Random(41)
    told = []
    for plan in drawn_plans(42, 120):
        boards = drawn_boards(chance, plan)
        told.append((plan, [chance.choice(boards) for at in range(chance.choice([0, 1, 30, 100]))]))
    for plan in drawn_plans(43, 12):
        told.append((plan, [chance.randrange(30) for at in range(400)]))
        told.append((plan, [at % 7 for at in range(400)]))
    return told


class Founds(unittest.TestCase):
    def test_by_hand(self):
        near, far = (1, 1, "old", "late"), (1, 2, "old", "late")
        row = [0, 1, 0, 0, 2, 1, 0]
        self.assertEqual(founds((1, "within", (near, far)), row), [2, 2, 1, 0, 2, 2, 2])
        self.assertEqual(founds((1, "apart", (near, far)), row), [2, 2, 1, 0, 2, 1, 1])
        self.assertEqual(founds((1, "free", (far, near)), row), [2, 2, 0, 0, 2, 2, 2])
        self.assertEqual(founds((1, "apart", (near,)), row), [1, 1, 1, 0, 1, 1, 1])

    def test_within_and_free_are_not_the_same(self):
        plan = ((1, 2, "old", "late"), (1, 2, "come", "late"))
        row = [0, 1, 0, 2, 0]
        self.assertEqual(founds((1, "within", plan), row), [2, 2, 0, 2, 2])
        self.assertEqual(founds((1, "free", plan), row), [2, 2, 0, 2, 0])

    def test_is_what_reads_tell(self):
        for plan, row in runs():
            told = founds(plan, row)
            if told != reads_tell(plan, row):
                self.fail(f"{plan}, {row}: {told}")

    def test_whatever_size_and_writing_are(self):
        chance = random.Random(44)
        for size, kind, rooms in drawn_plans(45, 60, shelves=(1, 2, 64), places=(1, 2, 3)):
            row = [chance.choice([0, 1, 2, 3, 64, 128, 192]) for at in range(60)]
            told = {tuple(founds((other, kind, rooms), row)) for other in [1, 2, 7, 16]}
            for writing in WRITINGS:
                written = tuple(room[:3] + (writing,) for room in rooms)
                told.add(tuple(founds((size, kind, written), row)))
            self.assertEqual(len(told), 1, f"{kind}, {rooms}, {row}")

    def test_one_room(self):
        chance = random.Random(46)
        for kind in KINDS:
            for rule in RULES:
                for shelves, places in [(1, 1), (1, 3), (3, 2), (64, 16)]:
                    row = [chance.randrange(12) for at in range(400)]
                    told = founds((1, kind, ((shelves, places, rule, "late"),)), row)
                    self.assertEqual(sum(told), misses(shelves, places, rule, row))

    def test_the_empty_row(self):
        for plan in drawn_plans(47, 12):
            self.assertEqual(founds(plan, []), [])

    def test_the_greatest_boards(self):
        for size in [1, 3, 16]:
            board = 10000 // size - 1
            plan = (size, "within", ((64, 16, "few", "through"),))
            self.assertEqual(founds(plan, [board, 0, board]), [1, 1, 0])


class MissedByStair(unittest.TestCase):
    def test_by_hand(self):
        near, far = (1, 1, "old", "late"), (1, 2, "old", "late")
        row = [0, 1, 0, 0, 2, 1, 0]
        self.assertEqual(missed_by_stair((1, "within", (near, far)), row), [6, 5])
        self.assertEqual(missed_by_stair((1, "apart", (near, far)), row), [6, 3])
        self.assertEqual(missed_by_stair((1, "apart", (near,)), row), [6])

    def test_is_counted_of_founds(self):
        for plan, row in runs():
            told = founds(plan, row)
            asked = [sum(found > k for found in told) for k in range(len(plan[2]))]
            self.assertEqual(missed_by_stair(plan, row), asked, f"{plan}, {row}")

    def test_never_rises_and_has_a_number_for_each_room(self):
        for plan, row in runs():
            told = missed_by_stair(plan, row)
            self.assertEqual(len(told), len(plan[2]))
            self.assertEqual(told, sorted(told, reverse=True))

    def test_the_empty_row(self):
        for plan in drawn_plans(48, 12):
            self.assertEqual(missed_by_stair(plan, []), [0] * len(plan[2]))


class Over(unittest.TestCase):
    def test_kinds_of_what_is_told(self):
        plan = (2, "free", ((1, 1, "old", "late"), (1, 2, "old", "late")))
        for told in [founds(plan, [0, 1, 0, 0]), missed_by_stair(plan, [0, 1, 0, 0]), missed_by_stair(plan, [])]:
            self.assertIs(type(told), list)
            self.assertEqual({type(number) for number in told}, {int})

    def test_the_row_stays_as_it_was(self):
        for plan, row in runs():
            before = list(row)
            founds(plan, row)
            missed_by_stair(plan, row)
            self.assertEqual(row, before)

    def test_told_lists_are_the_asker_s_own(self):
        for plan, row in runs()[:24]:
            for ask in [founds, missed_by_stair]:
                first, second = ask(plan, row), ask(plan, row)
                self.assertEqual(first, second)
                self.assertIsNot(first, second)
                self.assertIsNot(first, row)
                first.clear()
                row.append(0)
                row.pop()
                self.assertEqual(ask(plan, row), second)


if __name__ == "__main__":
    unittest.main()
