"""Points [11] to [13] by examples: the events of reads and writes, what is asked, and the refusals."""

import unittest

from nearstairs.errors import NoShelf, NoStair, NotThere
from nearstairs.stairs import Stairs

from by_hand import KINDS, RULES, WRITINGS, state_of


def room(places, writing="late", rule="old", shelves=1):
    return (shelves, places, rule, writing)


def stairs_of(kind, *rooms, size=1):
    return Stairs((size, kind, rooms))


class Deeds(unittest.TestCase):
    def check_reads(self, stairs, *rows):
        """Each row: a spot, the word that is read there, the events."""
        for spot, word, events in rows:
            self.assertEqual(stairs.read(spot), (word, events))

    def check_rooms(self, stairs, lies, changed):
        self.assertEqual([stairs.lies(k) for k in range(len(lies))], lies)
        self.assertEqual([stairs.changed(k) for k in range(len(changed))], changed)


class New(Deeds):
    def test_all_is_empty(self):
        for kind in KINDS:
            for many in [1, 2, 3, 4]:
                with self.subTest(kind=kind, many=many):
                    stairs = stairs_of(kind, *[room(2, shelves=3)] * many, size=4)
                    for k in range(many):
                        self.assertEqual(stairs.lies(k), [])
                        self.assertEqual(stairs.changed(k), [])
                        self.assertEqual([stairs.order(k, shelf) for shelf in range(3)], [[], [], []])
                    self.assertEqual(stairs.memory(), [])
                    self.assertEqual(stairs.words(many, 0), [0, 0, 0, 0])
                    self.assertEqual(stairs.words(many, 2499), [0, 0, 0, 0])
                    self.assertEqual(stairs.words(many, 9999), [0, 0, 0, 0])
                    self.assertEqual(stairs.emptied(), [])

    def test_words_of_the_memory_are_as_many_as_size(self):
        for size in [1, 2, 7, 16]:
            stairs = stairs_of("free", room(1), size=size)
            self.assertEqual(stairs.words(1, 3), [0] * size)
            self.assertEqual(stairs.words(1, 9999), [0] * size)

    def test_kinds_of_what_is_told(self):
        for kind in KINDS:
            with self.subTest(kind=kind):
                stairs = stairs_of(kind, room(1), room(1), size=2)
                told = stairs.read(0)
                self.assertIs(type(told), tuple)
                self.assertEqual(len(told), 2)
                self.assertIs(type(told[0]), int)
                self.assertIs(type(told[1]), list)
                lists = [told[1], stairs.write(2, 9), stairs.read(4)[1], stairs.emptied()]
                for events in lists:
                    self.assertIs(type(events), list)
                    for event in events:
                        self.assertIs(type(event), tuple)
                        self.assertEqual([type(thing) for thing in event], [str, int, int][:len(event)])
                self.assertEqual({type(pair) for pair in stairs.memory()}, {tuple})


class OneRoom(Deeds):
    def test_late(self):
        for kind in KINDS:
            with self.subTest(kind=kind):
                stairs = stairs_of(kind, room(1), size=2)
                self.check_reads(stairs, (0, 0, [("found", 1), ("in", 0, 0)]))
                self.assertEqual(stairs.write(1, 7), [("found", 0)])
                self.check_rooms(stairs, [[0]], [[0]])
                self.assertEqual(stairs.words(0, 0), [0, 7])
                self.assertEqual(stairs.words(1, 0), [0, 0])
                self.assertEqual(stairs.memory(), [])
                told = [("found", 1), ("out", 0, 0), ("words", 1, 0), ("in", 0, 1)]
                if kind == "apart":
                    told = [("found", 1), ("out", 0, 0), ("in", 0, 1), ("words", 1, 0)]
                self.check_reads(stairs, (2, 0, told))
                self.check_rooms(stairs, [[1]], [[]])
                self.assertEqual(stairs.memory(), [(1, 7)])
                self.check_reads(stairs, (1, 7, [("found", 1), ("out", 0, 1), ("in", 0, 0)]),
                                 (1, 7, [("found", 0)]), (0, 0, [("found", 0)]))
                self.check_rooms(stairs, [[0]], [[]])

    def test_through(self):
        for kind in KINDS:
            with self.subTest(kind=kind):
                stairs = stairs_of(kind, room(1, "through"), size=2)
                self.assertEqual(stairs.write(1, 7), [("found", 1), ("in", 0, 0), ("words", 1, 0)])
                self.check_rooms(stairs, [[0]], [[]])
                self.assertEqual(stairs.memory(), [(1, 7)])
                self.assertEqual(stairs.write(0, 3), [("found", 0), ("words", 1, 0)])
                self.assertEqual(stairs.words(0, 0), [3, 7])
                self.assertEqual(stairs.memory(), [(0, 3), (1, 7)])
                self.check_reads(stairs, (2, 0, [("found", 1), ("out", 0, 0), ("in", 0, 1)]))
                self.assertEqual(stairs.emptied(), [("out", 0, 1)])
                self.assertEqual(stairs.memory(), [(0, 3), (1, 7)])

    def test_the_word_written_is_the_same_as_before(self):
        for kind in KINDS:
            with self.subTest(kind=kind):
                stairs = stairs_of(kind, room(1))
                self.assertEqual(stairs.write(4, 0), [("found", 1), ("in", 0, 4)])
                self.assertEqual(stairs.changed(0), [4])
                self.assertEqual(stairs.emptied(), [("out", 0, 4), ("words", 1, 4)])
                self.assertEqual(stairs.memory(), [])

    def test_a_word_of_nought_leaves_the_memory_s_list(self):
        for kind in KINDS:
            for writing in WRITINGS:
                with self.subTest(kind=kind, writing=writing):
                    stairs = stairs_of(kind, room(1, writing), size=3)
                    stairs.write(4, 9)
                    stairs.write(5, -9)
                    stairs.emptied()
                    self.assertEqual(stairs.memory(), [(4, 9), (5, -9)])
                    stairs.write(4, 0)
                    stairs.emptied()
                    self.assertEqual(stairs.memory(), [(5, -9)])
                    self.assertEqual(stairs.words(1, 1), [0, 0, -9])

    def test_the_greatest_spot(self):
        for kind in KINDS:
            for size in [1, 3, 16]:
                with self.subTest(kind=kind, size=size):
                    stairs = stairs_of(kind, room(1), size=size)
                    board = 9999 // size
                    self.assertEqual(stairs.write(9999, 5), [("found", 1), ("in", 0, board)])
                    told = [0] * size
                    told[9999 % size] = 5
                    self.assertEqual(stairs.words(0, board), told)
                    self.assertEqual(stairs.emptied(), [("out", 0, board), ("words", 1, board)])
                    self.assertEqual(stairs.memory(), [(9999, 5)])
                    self.assertEqual(stairs.words(1, board), told)

    def test_two_shelves(self):
        stairs = stairs_of("free", room(1, shelves=2))
        self.check_reads(stairs, (0, 0, [("found", 1), ("in", 0, 0)]), (1, 0, [("found", 1), ("in", 0, 1)]),
                         (3, 0, [("found", 1), ("out", 0, 1), ("in", 0, 3)]), (0, 0, [("found", 0)]))
        self.assertEqual([stairs.order(0, 0), stairs.order(0, 1)], [[0], [3]])

    def test_sixty_four_shelves_of_sixteen_places(self):
        for kind in KINDS:
            with self.subTest(kind=kind):
                stairs = stairs_of(kind, room(16, shelves=64))
                for board in range(1024):
                    self.assertEqual(stairs.read(board), (0, [("found", 1), ("in", 0, board)]))
                self.assertEqual(stairs.lies(0), list(range(1024)))
                self.assertEqual(stairs.order(0, 63), list(range(63, 1024, 64)))
                self.assertEqual(stairs.read(1087), (0, [("found", 1), ("out", 0, 63), ("in", 0, 1087)]))


class Within(Deeds):
    def test_near_and_far_late(self):
        stairs = stairs_of("within", room(1), room(2))
        self.assertEqual(stairs.write(0, 5), [("found", 2), ("in", 1, 0), ("in", 0, 0)])
        self.check_rooms(stairs, [[0], [0]], [[0], []])
        self.assertEqual([stairs.words(0, 0), stairs.words(1, 0), stairs.words(2, 0)], [[5], [0], [0]])
        self.check_reads(
            stairs, (1, 0, [("found", 2), ("in", 1, 1), ("out", 0, 0), ("words", 1, 0), ("in", 0, 1)]))
        self.check_rooms(stairs, [[1], [0, 1]], [[], [0]])
        self.assertEqual([stairs.words(1, 0), stairs.words(2, 0)], [[5], [0]])
        self.assertEqual(stairs.order(1, 0), [0, 1], "words that are put use nothing")
        self.check_reads(stairs, (2, 0, [("found", 2), ("out", 1, 0), ("words", 2, 0), ("in", 1, 2),
                                         ("out", 0, 1), ("in", 0, 2)]))
        self.assertEqual(stairs.memory(), [(0, 5)])
        self.check_rooms(stairs, [[2], [1, 2]], [[], []])

    def test_a_board_goes_from_both_and_both_had_words_to_put(self):
        stairs = stairs_of("within", room(1), room(2))
        stairs.write(2, 9)
        self.check_reads(stairs, (3, 0, [("found", 2), ("in", 1, 3), ("out", 0, 2), ("words", 1, 2), ("in", 0, 3)]))
        self.assertEqual(stairs.write(3, 8), [("found", 0)])
        self.check_rooms(stairs, [[3], [2, 3]], [[3], [2]])
        self.check_reads(stairs, (4, 0, [("found", 2), ("out", 1, 2), ("words", 2, 2), ("in", 1, 4),
                                         ("out", 0, 3), ("words", 1, 3), ("in", 0, 4)]))
        self.check_rooms(stairs, [[4], [3, 4]], [[], [3]])
        self.assertEqual(stairs.memory(), [(2, 9)])

    def test_a_board_that_goes_from_the_far_room_goes_from_the_near_one(self):
        stairs = stairs_of("within", room(2), room(2, rule="come"))
        stairs.write(0, 5)
        self.check_reads(stairs, (1, 0, [("found", 2), ("in", 1, 1), ("in", 0, 1)]), (0, 5, [("found", 0)]),
                         (2, 0, [("found", 2), ("out", 1, 0), ("out", 0, 0), ("words", 2, 0),
                                 ("in", 1, 2), ("in", 0, 2)]))
        self.check_rooms(stairs, [[1, 2], [1, 2]], [[], []])
        self.assertEqual(stairs.memory(), [(0, 5)])

    def test_an_unchanged_board_that_goes_from_both_puts_no_words(self):
        stairs = stairs_of("within", room(2), room(2, rule="come"))
        for board in [0, 1, 0]:
            stairs.read(board)
        self.check_reads(
            stairs, (2, 0, [("found", 2), ("out", 1, 0), ("out", 0, 0), ("in", 1, 2), ("in", 0, 2)]))

    def test_the_words_of_the_nearest_go_on(self):
        stairs = stairs_of("within", room(1), room(2), room(2))
        self.assertEqual(stairs.write(0, 5), [("found", 3), ("in", 2, 0), ("in", 1, 0), ("in", 0, 0)])
        self.check_reads(stairs, (1, 0, [("found", 3), ("in", 2, 1), ("in", 1, 1), ("out", 0, 0), ("words", 1, 0),
                                         ("in", 0, 1)]))
        self.assertEqual(stairs.write(0, 6), [("found", 1), ("out", 0, 1), ("in", 0, 0)])
        self.assertEqual([stairs.words(k, 0) for k in range(4)], [[6], [5], [0], [0]])
        self.check_rooms(stairs, [[0], [0, 1], [0, 1]], [[0], [0], []])
        self.check_reads(stairs, (2, 0, [("found", 3), ("out", 2, 0), ("out", 1, 0), ("out", 0, 0), ("words", 3, 0),
                                         ("in", 2, 2), ("in", 1, 2), ("in", 0, 2)]))
        self.assertEqual(stairs.memory(), [(0, 6)])
        self.check_rooms(stairs, [[2], [1, 2], [1, 2]], [[], [], []])

    def test_a_board_that_goes_from_the_middle_puts_its_words_into_the_far_room(self):
        stairs = stairs_of("within", room(2, rule="come"), room(2, rule="come"), room(3))
        stairs.write(0, 5)
        stairs.read(1)
        self.check_reads(stairs, (2, 0, [("found", 3), ("in", 2, 2), ("out", 1, 0), ("out", 0, 0), ("words", 2, 0),
                                         ("in", 1, 2), ("in", 0, 2)]))
        self.check_rooms(stairs, [[1, 2], [1, 2], [0, 1, 2]], [[], [], [0]])
        self.assertEqual(stairs.words(2, 0), [5])

    def test_a_changed_board_lies_in_the_middle_alone(self):
        stairs = stairs_of("within", room(1), room(2), room(2))
        stairs.write(0, 5)
        stairs.read(1)
        self.check_rooms(stairs, [[1], [0, 1], [0, 1]], [[], [0], []])
        self.check_reads(stairs, (2, 0, [("found", 3), ("out", 2, 0), ("out", 1, 0), ("words", 3, 0), ("in", 2, 2),
                                         ("in", 1, 2), ("out", 0, 1), ("in", 0, 2)]))
        self.assertEqual(stairs.memory(), [(0, 5)])

    def test_through_and_late(self):
        stairs = stairs_of("within", room(1, "through"), room(2))
        self.assertEqual(stairs.write(0, 5), [("found", 2), ("in", 1, 0), ("in", 0, 0), ("words", 1, 0)])
        self.check_rooms(stairs, [[0], [0]], [[], [0]])
        self.assertEqual([stairs.words(k, 0) for k in range(3)], [[5], [5], [0]])
        self.check_reads(stairs, (1, 0, [("found", 2), ("in", 1, 1), ("out", 0, 0), ("in", 0, 1)]))
        self.assertEqual(stairs.emptied(), [("out", 0, 1), ("out", 1, 0), ("words", 2, 0), ("out", 1, 1)])

    def test_through_and_through(self):
        stairs = stairs_of("within", room(1, "through"), room(2, "through"), size=2)
        self.assertEqual(stairs.write(1, 5),
                         [("found", 2), ("in", 1, 0), ("in", 0, 0), ("words", 1, 0), ("words", 2, 0)])
        self.check_rooms(stairs, [[0], [0]], [[], []])
        self.assertEqual([stairs.words(k, 0) for k in range(3)], [[0, 5], [0, 5], [0, 5]])
        self.assertEqual(stairs.emptied(), [("out", 0, 0), ("out", 1, 0)])

    def test_late_and_through(self):
        stairs = stairs_of("within", room(1), room(2, "through"))
        self.assertEqual(stairs.write(0, 5), [("found", 2), ("in", 1, 0), ("in", 0, 0)])
        self.check_reads(stairs, (1, 0, [("found", 2), ("in", 1, 1), ("out", 0, 0), ("words", 1, 0), ("words", 2, 0),
                                         ("in", 0, 1)]))
        self.check_rooms(stairs, [[1], [0, 1]], [[], []])
        self.assertEqual(stairs.memory(), [(0, 5)])

    def test_four_rooms_late_through_through_late(self):
        stairs = stairs_of("within", room(1), room(2, "through"), room(2, "through"), room(2))
        self.assertEqual(stairs.write(0, 5), [("found", 4), ("in", 3, 0), ("in", 2, 0), ("in", 1, 0), ("in", 0, 0)])
        self.check_reads(stairs, (1, 0, [("found", 4), ("in", 3, 1), ("in", 2, 1), ("in", 1, 1), ("out", 0, 0),
                                         ("words", 1, 0), ("words", 2, 0), ("words", 3, 0), ("in", 0, 1)]))
        self.check_rooms(stairs, [[1], [0, 1], [0, 1], [0, 1]], [[], [], [], [0]])
        self.assertEqual([stairs.words(k, 0) for k in range(1, 5)], [[5], [5], [5], [0]])

    def test_emptied_with_boards_changed_in_several_stairs(self):
        stairs = stairs_of("within", room(1), room(2), room(3))
        stairs.write(2, 9)
        stairs.write(1, 8)
        stairs.write(0, 7)
        self.check_rooms(stairs, [[0], [0, 1], [0, 1, 2]], [[0], [1], [2]])
        self.assertEqual(stairs.emptied(), [
            ("out", 0, 0), ("words", 1, 0),
            ("out", 1, 0), ("words", 2, 0), ("out", 1, 1), ("words", 2, 1),
            ("out", 2, 0), ("words", 3, 0), ("out", 2, 1), ("words", 3, 1), ("out", 2, 2), ("words", 3, 2)])
        self.check_rooms(stairs, [[], [], []], [[], [], []])
        self.assertEqual(stairs.memory(), [(0, 7), (1, 8), (2, 9)])
        self.assertEqual(stairs.emptied(), [])


class Free(Deeds):
    def test_a_board_stays_near_when_it_goes_from_the_far_room(self):
        stairs = stairs_of("free", room(2), room(1))
        self.assertEqual(stairs.write(0, 5), [("found", 2), ("in", 1, 0), ("in", 0, 0)])
        self.check_reads(stairs, (1, 0, [("found", 2), ("out", 1, 0), ("in", 1, 1), ("in", 0, 1)]))
        self.check_rooms(stairs, [[0, 1], [1]], [[0], []])
        self.check_reads(stairs, (2, 0, [("found", 2), ("out", 1, 1), ("in", 1, 2), ("out", 0, 0), ("words", 2, 0),
                                         ("in", 0, 2)]))
        self.assertEqual(stairs.memory(), [(0, 5)])
        self.check_rooms(stairs, [[1, 2], [2]], [[], []])

    def test_words_go_on_past_a_room_in_which_the_board_does_not_lie(self):
        stairs = stairs_of("free", room(2), room(1), room(3))
        stairs.write(0, 5)
        stairs.read(1)
        self.check_rooms(stairs, [[0, 1], [1], [0, 1]], [[0], [], []])
        self.check_reads(stairs, (2, 0, [("found", 3), ("in", 2, 2), ("out", 1, 1), ("in", 1, 2),
                                         ("out", 0, 0), ("words", 2, 0), ("in", 0, 2)]))
        self.check_rooms(stairs, [[1, 2], [2], [0, 1, 2]], [[], [], [0]])
        self.assertEqual([stairs.words(2, 0), stairs.words(3, 0)], [[5], [0]])

    def test_words_go_on_through_a_room_to_a_late_one(self):
        stairs = stairs_of("free", room(1), room(2, "through"), room(2))
        stairs.write(0, 5)
        self.check_reads(stairs, (1, 0, [("found", 3), ("in", 2, 1), ("in", 1, 1), ("out", 0, 0), ("words", 1, 0),
                                         ("words", 2, 0), ("in", 0, 1)]))
        self.check_rooms(stairs, [[1], [0, 1], [0, 1]], [[], [], [0]])
        self.assertEqual([stairs.words(k, 0) for k in [1, 2, 3]], [[5], [5], [0]])

    def test_a_write_through_past_a_room_in_which_the_board_does_not_lie(self):
        stairs = stairs_of("free", room(2, "through"), room(1), room(3))
        stairs.read(0)
        stairs.read(1)
        self.assertEqual(stairs.write(0, 5), [("found", 0), ("words", 2, 0)])
        self.check_rooms(stairs, [[0, 1], [1], [0, 1]], [[], [], [0]])
        self.assertEqual(stairs.write(1, 6), [("found", 0), ("words", 1, 1)])
        self.check_rooms(stairs, [[0, 1], [1], [0, 1]], [[], [1], [0]])
        self.assertEqual(stairs.memory(), [])

    def test_a_write_through_to_the_memory_where_it_lies_in_no_farther_room(self):
        stairs = stairs_of("free", room(2, "through"), room(1))
        stairs.read(0)
        stairs.read(1)
        self.assertEqual(stairs.write(0, 5), [("found", 0), ("words", 2, 0)])

    def test_found_in_the_middle(self):
        stairs = stairs_of("free", room(1), room(2), room(1))
        stairs.write(0, 5)
        stairs.read(1)
        self.check_rooms(stairs, [[1], [0, 1], [1]], [[], [0], []])
        self.check_reads(stairs, (0, 5, [("found", 1), ("out", 0, 1), ("in", 0, 0)]))
        self.check_rooms(stairs, [[0], [0, 1], [1]], [[], [0], []])
        self.assertEqual(stairs.words(0, 0), [5])

    def test_emptied_with_boards_changed_in_several_stairs(self):
        stairs = stairs_of("free", room(1), room(2, "through"), room(2))
        stairs.write(2, 9)
        stairs.write(1, 8)
        stairs.write(0, 7)
        self.check_rooms(stairs, [[0], [0, 1], [0, 1]], [[0], [], [1]])
        self.assertEqual(stairs.memory(), [(2, 9)])
        self.assertEqual(stairs.emptied(), [
            ("out", 0, 0), ("words", 1, 0), ("words", 2, 0), ("out", 1, 0), ("out", 1, 1),
            ("out", 2, 0), ("words", 3, 0), ("out", 2, 1), ("words", 3, 1)])
        self.assertEqual(stairs.memory(), [(0, 7), (1, 8), (2, 9)])


class Apart(Deeds):
    def test_two_late(self):
        stairs = stairs_of("apart", room(1), room(1))
        self.assertEqual(stairs.write(0, 5), [("found", 2), ("in", 0, 0)])
        self.check_rooms(stairs, [[0], []], [[0], []])
        self.check_reads(stairs, (1, 0, [("found", 2), ("out", 0, 0), ("in", 0, 1), ("in", 1, 0)]))
        self.check_rooms(stairs, [[1], [0]], [[], [0]])
        self.check_reads(stairs, (2, 0, [("found", 2), ("out", 0, 1), ("in", 0, 2), ("out", 1, 0), ("in", 1, 1),
                                         ("words", 2, 0)]))
        self.assertEqual(stairs.memory(), [(0, 5)])
        self.assertEqual(stairs.write(2, 7), [("found", 0)])
        self.check_reads(stairs, (1, 0, [("found", 1), ("out", 1, 1), ("out", 0, 2), ("in", 0, 1), ("in", 1, 2)]))
        self.check_rooms(stairs, [[1], [2]], [[], [2]])
        self.check_reads(stairs, (2, 7, [("found", 1), ("out", 1, 2), ("out", 0, 1), ("in", 0, 2), ("in", 1, 1)]))
        self.check_rooms(stairs, [[2], [1]], [[2], []])
        self.assertEqual(stairs.words(2, 2), [0])
        self.assertEqual(stairs.emptied(), [("out", 0, 2), ("words", 2, 2), ("out", 1, 1)])
        self.assertEqual(stairs.memory(), [(0, 5), (2, 7)])

    def test_four_rooms_pushed_on_to_the_memory(self):
        stairs = stairs_of("apart", *[room(1)] * 4)
        for board in range(4):
            stairs.write(board, board + 1)
        self.check_rooms(stairs, [[3], [2], [1], [0]], [[3], [2], [1], [0]])
        self.assertEqual(stairs.write(4, 5), [
            ("found", 4), ("out", 0, 3), ("in", 0, 4), ("out", 1, 2), ("in", 1, 3), ("out", 2, 1), ("in", 2, 2),
            ("out", 3, 0), ("in", 3, 1), ("words", 4, 0)])
        self.assertEqual(stairs.memory(), [(0, 1)])
        self.check_rooms(stairs, [[4], [3], [2], [1]], [[4], [3], [2], [1]])

    def test_the_last_one_unchanged_puts_nothing_into_the_memory(self):
        stairs = stairs_of("apart", *[room(1)] * 3)
        for board in range(3):
            stairs.read(board)
        self.check_reads(stairs, (3, 0, [("found", 3), ("out", 0, 2), ("in", 0, 3), ("out", 1, 1), ("in", 1, 2),
                                         ("out", 2, 0), ("in", 2, 1)]))

    def test_pushing_ends_where_the_board_went(self):
        stairs = stairs_of("apart", *[room(1)] * 3)
        for board in range(3):
            stairs.read(board)
        self.check_reads(stairs, (1, 0, [("found", 1), ("out", 1, 1), ("out", 0, 2), ("in", 0, 1), ("in", 1, 2)]))
        self.check_rooms(stairs, [[1], [2], [0]], [[], [], []])

    def test_pushing_ends_where_the_shelf_has_a_place(self):
        stairs = stairs_of("apart", room(1), room(1, shelves=2), room(1))
        for board in [0, 1, 2]:
            stairs.read(board)
        self.check_rooms(stairs, [[2], [0, 1], []], [[], [], []])
        self.check_reads(stairs, (3, 0, [("found", 3), ("out", 0, 2), ("in", 0, 3), ("out", 1, 0), ("in", 1, 2),
                                         ("in", 2, 0)]))
        self.check_reads(stairs, (0, 0, [("found", 2), ("out", 2, 0), ("out", 0, 3), ("in", 0, 0), ("out", 1, 1),
                                         ("in", 1, 3), ("in", 2, 1)]))

    def test_pushed_into_a_through_room(self):
        stairs = stairs_of("apart", room(1), room(1, "through"))
        self.assertEqual(stairs.write(0, 5), [("found", 2), ("in", 0, 0)])
        self.check_reads(
            stairs, (1, 0, [("found", 2), ("out", 0, 0), ("in", 0, 1), ("in", 1, 0), ("words", 2, 0)]))
        self.check_rooms(stairs, [[1], [0]], [[], []])
        self.assertEqual(stairs.memory(), [(0, 5)])
        self.check_reads(stairs, (2, 0, [("found", 2), ("out", 0, 1), ("in", 0, 2), ("out", 1, 0), ("in", 1, 1)]))

    def test_words_of_a_through_room_stand_ahead_of_the_next_one_s_in(self):
        stairs = stairs_of("apart", room(1), room(1, "through"), room(1))
        stairs.write(0, 5)
        self.assertEqual(stairs.write(1, 6),
                         [("found", 3), ("out", 0, 0), ("in", 0, 1), ("in", 1, 0), ("words", 3, 0)])
        self.assertEqual(stairs.write(2, 7), [("found", 3), ("out", 0, 1), ("in", 0, 2), ("out", 1, 0), ("in", 1, 1),
                                              ("words", 3, 1), ("in", 2, 0)])
        self.check_rooms(stairs, [[2], [1], [0]], [[2], [], []])
        self.assertEqual(stairs.memory(), [(0, 5), (1, 6)])

    def test_through_ahead_of_late(self):
        stairs = stairs_of("apart", room(1, "through"), room(1), size=2)
        self.assertEqual(stairs.write(0, 5), [("found", 2), ("in", 0, 0), ("words", 2, 0)])
        self.check_rooms(stairs, [[0], []], [[], []])
        self.check_reads(stairs, (2, 0, [("found", 2), ("out", 0, 0), ("in", 0, 1), ("in", 1, 0)]))
        self.check_rooms(stairs, [[1], [0]], [[], []])
        self.assertEqual(stairs.write(1, 6), [("found", 1), ("out", 1, 0), ("out", 0, 1), ("in", 0, 0), ("in", 1, 1),
                                              ("words", 2, 0)])
        self.assertEqual(stairs.words(2, 0), [5, 6])

    def test_a_changed_board_comes_back_changed(self):
        stairs = stairs_of("apart", room(1), room(2))
        stairs.write(0, 5)
        stairs.read(1)
        self.assertEqual(stairs.changed(1), [0])
        self.check_reads(stairs, (0, 5, [("found", 1), ("out", 1, 0), ("out", 0, 1), ("in", 0, 0), ("in", 1, 1)]))
        self.check_rooms(stairs, [[0], [1]], [[0], []])
        self.assertEqual(stairs.memory(), [])

    def test_a_board_is_as_if_brought_first_in_each_stair(self):
        for rule in RULES:
            with self.subTest(rule=rule):
                stairs = stairs_of("apart", room(2, rule=rule), room(2, rule=rule))
                for board in [0, 0, 0, 1, 2, 3]:
                    stairs.read(board)
                told = {"old": ([2, 3], [0, 1]), "come": ([2, 3], [0, 1]), "few": ([3, 0], [1, 2])}[rule]
                self.assertEqual((stairs.order(0, 0), stairs.order(1, 0)), told)

    def test_found_in_stair_0_is_used_there(self):
        stairs = stairs_of("apart", room(2), room(2))
        for board in [0, 1]:
            stairs.read(board)
        self.check_reads(stairs, (0, 0, [("found", 0)]))
        self.assertEqual(stairs.order(0, 0), [1, 0])

    def test_emptied(self):
        stairs = stairs_of("apart", room(2), room(1, "through"), room(2))
        for board in range(5):
            stairs.write(board, board + 10)
        self.check_rooms(stairs, [[3, 4], [2], [0, 1]], [[3, 4], [], []])
        self.assertEqual(stairs.emptied(), [("out", 0, 3), ("words", 3, 3), ("out", 0, 4), ("words", 3, 4),
                                            ("out", 1, 2), ("out", 2, 0), ("out", 2, 1)])
        self.assertEqual(stairs.memory(), [(board, board + 10) for board in range(5)])
        self.check_rooms(stairs, [[], [], []], [[], [], []])


class Orders(Deeds):
    def test_found_is_used_there_and_in_no_other_stair(self):
        for kind in ["within", "free"]:
            told = {"old": [1, 2, 0], "come": [0, 1, 2], "few": [1, 2, 0]}
            for rule in RULES:
                with self.subTest(kind=kind, rule=rule):
                    stairs = stairs_of(kind, room(1), room(3, rule=rule), room(3, rule=rule))
                    for board in [0, 1, 2]:
                        stairs.read(board)
                    self.assertEqual(stairs.read(0)[1], [("found", 1), ("out", 0, 2), ("in", 0, 0)])
                    for again in range(3):
                        self.assertEqual(stairs.read(0)[1], [("found", 0)])
                    self.assertEqual(stairs.order(1, 0), told[rule])
                    self.assertEqual(stairs.order(2, 0), [0, 1, 2])

    def test_few_counts_uses_there_alone(self):
        stairs = stairs_of("free", room(2, rule="few"), room(3, rule="few"))
        for board in [0, 0, 0, 1, 2, 1]:
            stairs.read(board)
        # In stair 0: 0 was used twice, then 2 drove out 1, and 1 drove out 2; in stair 1 only 1 was used.
        self.assertEqual(stairs.order(0, 0), [1, 0])
        self.assertEqual(stairs.order(1, 0), [0, 2, 1])

    def test_a_write_uses_as_a_read_does(self):
        for rule in RULES:
            for kind in KINDS:
                with self.subTest(kind=kind, rule=rule):
                    reads = stairs_of(kind, room(3, "through", rule), room(3, "through", rule))
                    writes = stairs_of(kind, room(3, "through", rule), room(3, "through", rule))
                    for board in [0, 1, 2, 0, 0, 1, 3, 4, 0, 2, 5, 1]:
                        events = [event for event in writes.write(board, 1) if event[0] != "words"]
                        self.assertEqual(events, reads.read(board)[1])
                        for k in [0, 1]:
                            self.assertEqual(writes.order(k, 0), reads.order(k, 0))


class Refusing(Deeds):
    def plans(self):
        plans = []
        for kind in KINDS:
            for many in [1, 2, 4]:
                plans.append((2, kind, tuple((2, 1 + k, RULES[k % 3], WRITINGS[k % 2]) for k in range(many))))
        return plans

    def used(self, plan):
        stairs = Stairs(plan)
        for spot in [0, 4, 9, 1, 12, 3, 5, 16, 0]:
            stairs.read(spot)
            stairs.write((spot * 3) % 20, spot - 7)
        return stairs

    def check_refused(self, plan, refusal, ask):
        stairs, twin = self.used(plan), self.used(plan)
        boards = range(12)
        with self.assertRaises(refusal) as caught:
            ask(stairs)
        self.assertIs(type(caught.exception), refusal)
        self.assertEqual(state_of(stairs, plan, boards), state_of(twin, plan, boards))
        for spot in [0, 14, 22, 3, 8, 0, 19]:
            self.assertEqual(stairs.read(spot), twin.read(spot))
            self.assertEqual(stairs.write(spot + 1, 77), twin.write(spot + 1, 77))
        self.assertEqual(stairs.emptied(), twin.emptied())
        self.assertEqual(stairs.memory(), twin.memory())

    def test_no_stair(self):
        for plan in self.plans():
            n = len(plan[2])
            for k in [-1, -2, -n, -n - 1, n, n + 1, n + 2, 99, -99, 10 ** 9]:
                with self.subTest(plan=plan, k=k):
                    self.check_refused(plan, NoStair, lambda stairs: stairs.lies(k))
                    self.check_refused(plan, NoStair, lambda stairs: stairs.changed(k))
                    self.check_refused(plan, NoStair, lambda stairs: stairs.order(k, 0))

    def test_no_stair_for_words(self):
        for plan in self.plans():
            n = len(plan[2])
            for k in [-1, -2, -n, -n - 1, n + 1, n + 2, 99, -99, 10 ** 9]:
                with self.subTest(plan=plan, k=k):
                    self.check_refused(plan, NoStair, lambda stairs: stairs.words(k, stairs.lies(0)[0]))

    def test_no_stair_goes_ahead_of_all_else(self):
        for plan in self.plans():
            n = len(plan[2])
            for k in [-1, n, n + 1, 99]:
                for shelf in [-1, 2, 64, 1000]:
                    with self.subTest(plan=plan, k=k, shelf=shelf):
                        self.check_refused(plan, NoStair, lambda stairs: stairs.order(k, shelf))
            for k in [-1, n + 1, 99]:
                with self.subTest(plan=plan, k=k):
                    self.check_refused(plan, NoStair, lambda stairs: stairs.words(k, 4321))

    def test_no_shelf(self):
        for plan in self.plans():
            for k in range(len(plan[2])):
                for shelf in [-1, -2, 2, 3, 63, 64, 1000]:
                    with self.subTest(plan=plan, k=k, shelf=shelf):
                        self.check_refused(plan, NoShelf, lambda stairs: stairs.order(k, shelf))

    def test_each_stair_has_its_own_shelves(self):
        stairs = stairs_of("free", room(1, shelves=1), room(1, shelves=64))
        self.assertEqual(stairs.order(0, 0), [])
        self.assertEqual(stairs.order(1, 63), [])
        self.assertRaises(NoShelf, stairs.order, 0, 1)
        self.assertRaises(NoShelf, stairs.order, 1, 64)

    def test_not_there(self):
        for plan in self.plans():
            lying = [self.used(plan).lies(k) for k in range(len(plan[2]))]
            for k, there in enumerate(lying):
                for board in [board for board in [0, 1, 2, 3, 5, 8, 9999] if board not in there]:
                    with self.subTest(plan=plan, k=k, board=board):
                        self.check_refused(plan, NotThere, lambda stairs: stairs.words(k, board))

    def test_not_there_of_one_that_went(self):
        for kind in KINDS:
            with self.subTest(kind=kind):
                stairs = stairs_of(kind, room(1))
                self.assertRaises(NotThere, stairs.words, 0, 0)
                stairs.read(0)
                self.assertEqual(stairs.words(0, 0), [0])
                stairs.read(1)
                self.assertRaises(NotThere, stairs.words, 0, 0)
                stairs.emptied()
                self.assertRaises(NotThere, stairs.words, 0, 1)
                self.assertEqual(stairs.words(1, 1), [0])


if __name__ == "__main__":
    unittest.main()
