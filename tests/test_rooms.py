"""Points [5] and [6]: one room, and which of its boards goes next; with point [2] over them."""

import random
import unittest

from nearstairs.errors import NoShelf, NotThere, There
from nearstairs.rooms import Room

RULES = ["old", "come", "few"]


class Diary:
    """All deeds done in a room, from which everything is reckoned anew at each question."""

    def __init__(self, shelves, places, rule):
        self.shelves = shelves
        self.places = places
        self.rule = rule
        self.deeds = []

    def there(self):
        boards = set()
        for deed, board in self.deeds:
            if deed == "bring":
                boards.add(board)
            if deed == "go":
                boards.remove(board)
        return boards

    def rank(self, board):
        """The greater it is, the later the board goes."""
        brought = max(at for at, deed in enumerate(self.deeds) if deed == ("bring", board))
        uses = [at for at, deed in enumerate(self.deeds) if deed == ("use", board) and at > brought]
        if self.rule == "old":
            return max([brought] + uses)
        if self.rule == "come":
            return brought
        return (len(uses), brought)

    def shelf(self, number):
        boards = [board for board in self.there() if board % self.shelves == number]
        return sorted(boards, key=self.rank)

    def bring(self, board):
        mates = self.shelf(board % self.shelves)
        out = mates[0] if len(mates) == self.places else None
        if out is not None:
            self.deeds.append(("go", out))
        self.deeds.append(("bring", board))
        return out


def filled(rule, places, boards, shelves=1):
    room = Room(shelves, places, rule)
    for board in boards:
        room.bring(board)
    return room


def state(room, shelves):
    return (room.boards(), [room.shelf(number) for number in range(shelves)])


class Coming(unittest.TestCase):
    def test_a_new_room_is_empty(self):
        for rule in RULES:
            for shelves in [1, 2, 64]:
                for places in [1, 16]:
                    with self.subTest(rule=rule, shelves=shelves, places=places):
                        room = Room(shelves, places, rule)
                        self.assertEqual(room.boards(), [])
                        self.assertEqual([room.shelf(number) for number in range(shelves)], [[]] * shelves)
                        self.assertIs(room.has(0), False)
                        self.assertIs(room.has(9999), False)

    def test_bring_into_a_shelf_with_room_tells_none(self):
        for rule in RULES:
            for places in [1, 2, 16]:
                with self.subTest(rule=rule, places=places):
                    room = Room(1, places, rule)
                    for board in range(places):
                        self.assertIs(room.has(board), False)
                        self.assertIs(room.bring(board), None)
                        self.assertIs(room.has(board), True)
                    self.assertEqual(room.boards(), list(range(places)))

    def test_bring_into_a_full_shelf_tells_the_one_that_goes(self):
        for rule in RULES:
            for places in [1, 2, 16]:
                with self.subTest(rule=rule, places=places):
                    room = filled(rule, places, range(100, 100 + places))
                    for board in range(200, 200 + places):
                        self.assertEqual(room.bring(board), board - 100)
                        self.assertIs(room.has(board - 100), False)
                        self.assertIs(room.has(board), True)
                    self.assertEqual(room.boards(), list(range(200, 200 + places)))

    def test_board_0_that_goes_is_told_as_0(self):
        for rule in RULES:
            with self.subTest(rule=rule):
                out = filled(rule, 1, [0]).bring(1)
                self.assertEqual(out, 0)
                self.assertIs(type(out), int)

    def test_each_shelf_is_full_by_itself(self):
        for rule in RULES:
            with self.subTest(rule=rule):
                room = Room(3, 2, rule)
                self.assertEqual([room.bring(board) for board in [0, 3, 1, 2, 4, 5]], [None] * 6)
                self.assertEqual(room.bring(7), 1)
                self.assertEqual(room.bring(6), 0)
                self.assertEqual(room.bring(8), 2)
                self.assertEqual(room.boards(), [3, 4, 5, 6, 7, 8])
                self.assertEqual([room.shelf(number) for number in range(3)], [[3, 6], [4, 7], [5, 8]])

    def test_sixty_four_shelves_of_sixteen_places(self):
        for rule in RULES:
            with self.subTest(rule=rule):
                room = Room(64, 16, rule)
                self.assertEqual({room.bring(board) for board in range(1024)}, {None})
                self.assertEqual(room.boards(), list(range(1024)))
                self.assertEqual(room.shelf(63), list(range(63, 1024, 64)))
                self.assertEqual(room.bring(9999), 15)
                self.assertEqual(room.shelf(15), list(range(79, 1024, 64)) + [9999])
                self.assertIs(room.has(15), False)

    def test_sixty_four_shelves_of_one_place(self):
        room = filled("old", 1, range(64), 64)
        self.assertEqual([room.bring(board) for board in range(64, 128)], list(range(64)))

    def test_boards_rise_however_they_came(self):
        for rule in RULES:
            with self.subTest(rule=rule):
                room = filled(rule, 3, [9, 100, 5, 20, 7, 0], 2)
                self.assertEqual(room.boards(), [0, 5, 7, 9, 20, 100])


class UsingAndDropping(unittest.TestCase):
    def test_use_and_drop_tell_none(self):
        for rule in RULES:
            with self.subTest(rule=rule):
                room = filled(rule, 2, [1, 2])
                self.assertIs(room.use(1), None)
                self.assertIs(room.drop(1), None)

    def test_use_changes_nothing_of_what_is_there(self):
        for rule in RULES:
            with self.subTest(rule=rule):
                room = filled(rule, 3, [4, 1, 6])
                room.use(1)
                self.assertEqual(room.boards(), [1, 4, 6])
                self.assertIs(room.has(1), True)

    def test_a_dropped_board_leaves_its_place(self):
        for rule in RULES:
            with self.subTest(rule=rule):
                room = filled(rule, 3, [1, 2, 3])
                room.drop(2)
                self.assertIs(room.has(2), False)
                self.assertEqual(room.boards(), [1, 3])
                self.assertEqual(room.shelf(0), [1, 3])
                self.assertIs(room.bring(4), None)
                self.assertEqual(room.bring(5), 1)

    def test_drop_of_the_only_board(self):
        for rule in RULES:
            with self.subTest(rule=rule):
                room = filled(rule, 1, [7])
                room.drop(7)
                self.assertEqual(state(room, 1), ([], [[]]))
                self.assertIs(room.bring(8), None)

    def test_drop_touches_its_own_shelf_alone(self):
        room = filled("old", 2, [0, 1, 2, 3], 2)
        room.drop(1)
        self.assertEqual(state(room, 2), ([0, 2, 3], [[0, 2], [3]]))
        self.assertEqual(room.bring(4), 0)
        self.assertIs(room.bring(5), None)


class NextToGo(unittest.TestCase):
    def test_old_is_the_one_brought_or_used_longest_ago(self):
        room = filled("old", 3, [1, 2, 3])
        room.use(1)
        self.assertEqual(room.shelf(0), [2, 3, 1])
        room.use(2)
        room.use(1)
        self.assertEqual(room.shelf(0), [3, 2, 1])
        self.assertEqual([room.bring(board) for board in [4, 5, 6]], [3, 2, 1])

    def test_old_counts_no_uses(self):
        room = filled("old", 2, [1, 2])
        for time in range(5):
            room.use(1)
        room.use(2)
        self.assertEqual(room.bring(3), 1)

    def test_come_is_the_one_brought_longest_ago_however_used(self):
        room = filled("come", 3, [1, 2, 3])
        room.use(1)
        room.use(1)
        self.assertEqual(room.shelf(0), [1, 2, 3])
        self.assertEqual([room.bring(board) for board in [4, 5, 6]], [1, 2, 3])

    def test_few_is_the_one_used_least_often(self):
        room = filled("few", 3, [1, 2, 3])
        for board in [1, 1, 2, 3, 3, 3]:
            room.use(board)
        self.assertEqual(room.shelf(0), [2, 1, 3])
        self.assertEqual(room.bring(4), 2)
        self.assertEqual(room.shelf(0), [4, 1, 3])
        self.assertEqual(room.bring(5), 4)

    def test_few_of_like_ones_the_one_brought_longest_ago(self):
        room = filled("few", 3, [3, 1, 2])
        self.assertEqual(room.shelf(0), [3, 1, 2])
        for board in [2, 1, 3]:
            room.use(board)
        self.assertEqual(room.shelf(0), [3, 1, 2])
        self.assertEqual(room.bring(4), 3)

    def test_few_bringing_is_no_use(self):
        room = filled("few", 2, [1])
        room.use(1)
        room.bring(2)
        self.assertEqual(room.shelf(0), [2, 1])
        room.use(2)
        self.assertEqual(room.shelf(0), [1, 2])
        self.assertEqual(room.bring(3), 1)
        self.assertEqual(room.bring(4), 3)

    def test_few_many_uses(self):
        room = filled("few", 2, [1, 2])
        for time in range(12):
            room.use(1)
        for time in range(9):
            room.use(2)
        self.assertEqual(room.shelf(0), [2, 1])

    def test_a_board_dropped_and_brought_again_is_as_if_brought_first(self):
        shelves = {"old": [2, 3, 1], "come": [2, 3, 1], "few": [1, 2, 3]}
        for rule in RULES:
            with self.subTest(rule=rule):
                room = filled(rule, 3, [1, 2, 3])
                for board in [1, 1, 1, 2, 3]:
                    room.use(board)
                room.drop(1)
                room.bring(1)
                self.assertEqual(room.shelf(0), shelves[rule])

    def test_a_board_that_went_and_is_brought_again_is_as_if_brought_first(self):
        room = filled("few", 1, [1])
        for time in range(3):
            room.use(1)
        self.assertEqual(room.bring(2), 1)
        self.assertEqual(room.bring(1), 2)
        room.drop(1)
        room = filled("few", 2, [1, 2])
        for board in [1, 1, 2, 2, 2]:
            room.use(board)
        self.assertEqual(room.bring(3), 1)
        for time in range(4):
            room.use(3)
        self.assertEqual(room.bring(1), 2)
        self.assertEqual(room.shelf(0), [1, 3])
        self.assertEqual(room.bring(2), 1)

    def test_brought_again_by_old_and_come(self):
        for rule in ["old", "come"]:
            with self.subTest(rule=rule):
                room = filled(rule, 2, [1, 2])
                self.assertEqual(room.bring(3), 1)
                self.assertEqual(room.bring(1), 2)
                self.assertEqual(room.shelf(0), [3, 1])


class AgainstTheDiary(unittest.TestCase):
    """Many deeds, each answer against one reckoned anew from all deeds so far."""

    def check_deed(self, room, diary, board, chance):
        if board not in diary.there():
            self.assertIs(room.has(board), False)
            self.assertEqual(room.bring(board), diary.bring(board))
            return
        self.assertIs(room.has(board), True)
        if chance.random() < 0.2:
            self.assertIsNone(room.drop(board))
            diary.deeds.append(("go", board))
        else:
            self.assertIsNone(room.use(board))
            diary.deeds.append(("use", board))

    def check_run(self, shelves, places, rule, many, seed):
        chance = random.Random(seed)
        room = Room(shelves, places, rule)
        diary = Diary(shelves, places, rule)
        pool = [chance.randrange(10000) for board in range(many)]
        for step in range(120):
            self.check_deed(room, diary, chance.choice(pool), chance)
            self.assertEqual(room.boards(), sorted(diary.there()))
            for number in {0, shelves - 1, diary.deeds[-1][1] % shelves}:
                self.assertEqual(room.shelf(number), diary.shelf(number))
                self.assertEqual(room.shelf(number), diary.shelf(number))

    def test_runs(self):
        for rule in RULES:
            for shelves, places, many in [(1, 1, 3), (1, 2, 4), (1, 4, 7), (1, 16, 24), (2, 3, 10), (5, 2, 16),
                                          (64, 1, 90), (64, 16, 60)]:
                for seed in range(3):
                    with self.subTest(rule=rule, shelves=shelves, places=places, seed=seed):
                        self.check_run(shelves, places, rule, many, seed)

    def test_shelf_tells_the_order_in_which_boards_go(self):
        for rule in RULES:
            for seed in range(10):
                with self.subTest(rule=rule, seed=seed):
                    chance = random.Random(seed)
                    room = filled(rule, 5, [10, 11, 12, 13, 14])
                    for time in range(seed):
                        room.use(chance.randrange(10, 15))
                    told = room.shelf(0)
                    gone = []
                    for board in [20, 21, 22, 23, 24]:
                        # A newcomer may be next itself by few: it's used till it isn't.
                        gone.append(room.bring(board))
                        for time in range(20):
                            room.use(board)
                    self.assertEqual(gone, told)


class Refusing(unittest.TestCase):
    def rooms(self):
        """Rooms in which the next to go is another one than the first that came, where the rule lets it."""
        for rule in RULES:
            for shelves in [1, 2, 64]:
                boards = [0, shelves, 2 * shelves]
                room = filled(rule, 3, boards + ([1] if shelves > 1 else []), shelves)
                for board in [0, 0, shelves]:
                    room.use(board)
                yield rule, shelves, room

    def check_refused(self, refusal, room, shelves, deed, *things):
        before = state(room, shelves)
        for time in range(3):
            with self.assertRaises(refusal) as caught:
                deed(*things)
            self.assertIs(type(caught.exception), refusal)
        self.assertEqual(state(room, shelves), before)
        shelf = before[1][0]
        self.assertEqual(room.bring(50 * shelves), shelf[0])

    def test_there(self):
        for rule, shelves, room in self.rooms():
            with self.subTest(rule=rule, shelves=shelves):
                # The next to go itself: were it brought anew, another one would be next.
                self.check_refused(There, room, shelves, room.bring, room.shelf(0)[0])

    def test_there_of_any_that_is_there(self):
        for at in [0, 1, 2]:
            for rule, shelves, room in self.rooms():
                with self.subTest(rule=rule, shelves=shelves, at=at):
                    self.check_refused(There, room, shelves, room.bring, at * shelves)

    def test_there_in_a_full_shelf_drives_out_none(self):
        for rule in RULES:
            with self.subTest(rule=rule):
                room = filled(rule, 1, [5])
                self.assertRaises(There, room.bring, 5)
                self.assertEqual(room.boards(), [5])

    def test_there_leaves_the_uses_as_they_are(self):
        room = filled("few", 2, [1, 2])
        for board in [1, 1, 2]:
            room.use(board)
        self.assertRaises(There, room.bring, 1)
        self.assertEqual(room.shelf(0), [2, 1])
        room.use(2)
        self.assertEqual(room.shelf(0), [1, 2])

    def test_use_of_one_not_there(self):
        for board in [3, 7, 4000, 9999]:
            for rule, shelves, room in self.rooms():
                with self.subTest(rule=rule, shelves=shelves, board=board):
                    self.check_refused(NotThere, room, shelves, room.use, board * shelves)

    def test_drop_of_one_not_there(self):
        for board in [3, 7, 4000, 9999]:
            for rule, shelves, room in self.rooms():
                with self.subTest(rule=rule, shelves=shelves, board=board):
                    self.check_refused(NotThere, room, shelves, room.drop, board * shelves)

    def test_not_there_in_an_empty_room(self):
        for rule in RULES:
            with self.subTest(rule=rule):
                room = Room(2, 2, rule)
                self.assertRaises(NotThere, room.use, 0)
                self.assertRaises(NotThere, room.drop, 0)
                self.assertEqual(state(room, 2), ([], [[], []]))
                self.assertIs(room.bring(0), None)
                self.assertIs(room.bring(2), None)

    def test_not_there_of_one_that_was_there(self):
        for rule in RULES:
            with self.subTest(rule=rule):
                room = filled(rule, 2, [1, 2, 3])
                room.drop(3)
                for board in [1, 3]:
                    self.assertRaises(NotThere, room.use, board)
                    self.assertRaises(NotThere, room.drop, board)
                self.assertEqual(state(room, 1), ([2], [[2]]))

    def test_no_shelf(self):
        for rule, shelves, room in self.rooms():
            below = [-1, -2, -shelves, -shelves - 1, -10 ** 30]
            for number in below + [shelves, shelves + 1, 2 * shelves, 1000, 10 ** 30]:
                with self.subTest(rule=rule, shelves=shelves, number=number):
                    with self.assertRaises(NoShelf) as caught:
                        room.shelf(number)
                    self.assertIs(type(caught.exception), NoShelf)

    def test_no_shelf_changes_nothing(self):
        for rule, shelves, room in self.rooms():
            with self.subTest(rule=rule, shelves=shelves):
                self.check_refused(NoShelf, room, shelves, room.shelf, shelves)

    def test_the_last_shelf_is_one(self):
        for shelves in [1, 2, 64]:
            with self.subTest(shelves=shelves):
                self.assertEqual(filled("old", 1, [shelves - 1], shelves).shelf(shelves - 1), [shelves - 1])


class AskersOwn(unittest.TestCase):
    def test_questions_tell_lists_and_truths(self):
        for rule in RULES:
            with self.subTest(rule=rule):
                room = filled(rule, 2, [2, 1])
                self.assertIs(type(room.boards()), list)
                self.assertIs(type(room.shelf(0)), list)
                self.assertIs(type(room.has(1)), bool)
                self.assertIs(type(room.has(3)), bool)

    def test_told_lists_can_be_changed_without_harm(self):
        for rule in RULES:
            with self.subTest(rule=rule):
                room = filled(rule, 3, [3, 1, 2])
                for tell in [room.boards, lambda: room.shelf(0)]:
                    first = tell()
                    kept = list(first)
                    second = tell()
                    self.assertIsNot(first, second)
                    first.clear()
                    self.assertEqual(second, kept)
                    second.append(99)
                    second[0] = 98
                    self.assertEqual(tell(), kept)
                    self.assertIs(room.has(99), False)
                self.assertEqual(room.bring(4), 3)

    def test_nothing_done_later_changes_what_was_told(self):
        for rule in RULES:
            with self.subTest(rule=rule):
                room = filled(rule, 2, [2, 1])
                boards, shelf = room.boards(), room.shelf(0)
                room.use(2)
                room.bring(3)
                room.drop(3)
                self.assertEqual(boards, [1, 2])
                self.assertEqual(shelf, [2, 1])

    def test_empty_shelves_are_told_as_lists_of_their_own(self):
        room = Room(2, 2, "old")
        room.shelf(0).append(7)
        self.assertEqual([room.shelf(0), room.shelf(1), room.boards()], [[], [], []])

    def test_asking_uses_nothing(self):
        for rule in RULES:
            with self.subTest(rule=rule):
                room = filled(rule, 2, [1, 2])
                for time in range(3):
                    room.has(1)
                    room.boards()
                    room.shelf(0)
                self.assertEqual(room.bring(3), 1)

    def test_two_rooms_side_by_side(self):
        for rule in RULES:
            for other in RULES:
                with self.subTest(rule=rule, other=other):
                    one, two = Room(1, 2, rule), Room(1, 2, other)
                    one.bring(1)
                    self.assertEqual(two.boards(), [])
                    two.bring(1)
                    two.bring(2)
                    one.bring(3)
                    two.use(1)
                    two.use(2)
                    two.drop(1)
                    self.assertEqual(state(one, 1), ([1, 3], [[1, 3]]))
                    self.assertEqual(state(two, 1), ([2], [[2]]))
                    self.assertRaises(NotThere, two.use, 3)
                    self.assertEqual(one.bring(2), 1)
                    self.assertIs(two.bring(1), None)


if __name__ == "__main__":
    unittest.main()
