"""Point [3]: boards, their spots, their shelves; with point [2] over them."""

import unittest

from nearstairs.boards import board_of, shelf_of, spots_of

SIZES = range(1, 17)


class BoardOf(unittest.TestCase):
    def test_ordinary(self):
        rows = [(4, 0, 0), (4, 3, 0), (4, 4, 1), (4, 7, 1), (4, 8, 2), (3, 100, 33), (10, 1234, 123)]
        for size, spot, board in rows:
            with self.subTest(size=size, spot=spot):
                self.assertEqual(board_of(size, spot), board)

    def test_edges(self):
        rows = [(1, 0, 0), (16, 0, 0), (1, 9999, 9999), (16, 9999, 624), (16, 15, 0), (16, 16, 1), (1, 1, 1)]
        for size, spot, board in rows:
            with self.subTest(size=size, spot=spot):
                self.assertEqual(board_of(size, spot), board)

    def test_every_size_counts_on_after_so_many_spots(self):
        for size in SIZES:
            board = 0
            left = size
            for spot in range(10000):
                if left == 0:
                    board += 1
                    left = size
                left -= 1
                if board_of(size, spot) != board:
                    self.fail(f"size {size}, spot {spot}: {board_of(size, spot)}, not {board}")

    def test_tells_a_whole_number(self):
        for size, spot in [(1, 0), (1, 1), (16, 15), (16, 16), (16, 9999)]:
            with self.subTest(size=size, spot=spot):
                self.assertIs(type(board_of(size, spot)), int)

    def test_somewhat_beyond_the_bounds_nothing_is_refused(self):
        self.assertEqual(board_of(17, 10000), 588)


class SpotsOf(unittest.TestCase):
    def test_ordinary(self):
        rows = [(4, 0, [0, 1, 2, 3]), (4, 5, [20, 21, 22, 23]), (3, 33, [99, 100, 101]), (2, 1, [2, 3])]
        for size, board, spots in rows:
            with self.subTest(size=size, board=board):
                self.assertEqual(spots_of(size, board), spots)

    def test_edges(self):
        rows = [
            (1, 0, [0]),
            (1, 9999, [9999]),
            (16, 0, [0, 1, 2, 3, 4, 5, 6, 7, 8, 9, 10, 11, 12, 13, 14, 15]),
            (16, 624, [9984, 9985, 9986, 9987, 9988, 9989, 9990, 9991,
                       9992, 9993, 9994, 9995, 9996, 9997, 9998, 9999]),
        ]
        for size, board, spots in rows:
            with self.subTest(size=size, board=board):
                self.assertEqual(spots_of(size, board), spots)

    def test_spots_beyond_the_last_one(self):
        rows = [
            (3, 3333, [9999, 10000, 10001]),
            (7, 1428, [9996, 9997, 9998, 9999, 10000, 10001, 10002]),
            (2, 9999, [19998, 19999]),
            (16, 9999, [159984, 159985, 159986, 159987, 159988, 159989, 159990, 159991,
                        159992, 159993, 159994, 159995, 159996, 159997, 159998, 159999]),
        ]
        for size, board, spots in rows:
            with self.subTest(size=size, board=board):
                self.assertEqual(spots_of(size, board), spots)

    def test_boards_one_behind_the_other_have_all_spots_once(self):
        for size in SIZES:
            with self.subTest(size=size):
                spots = []
                for board in range(200):
                    spots += spots_of(size, board)
                self.assertEqual(spots, list(range(200 * size)))

    def test_each_spot_lies_on_its_board(self):
        for size in SIZES:
            for board in [0, 1, 2, 99, 624, 625, 9998, 9999]:
                with self.subTest(size=size, board=board):
                    boards = [board_of(size, spot) for spot in spots_of(size, board)]
                    self.assertEqual(boards, [board] * size)

    def test_tells_a_list_of_whole_numbers(self):
        for size, board in [(1, 0), (2, 0), (16, 9999)]:
            with self.subTest(size=size, board=board):
                spots = spots_of(size, board)
                self.assertIs(type(spots), list)
                self.assertEqual({type(spot) for spot in spots}, {int})

    def test_the_list_is_the_asker_s_own(self):
        for size, board in [(1, 0), (4, 5), (16, 9999)]:
            with self.subTest(size=size, board=board):
                first = spots_of(size, board)
                kept = list(first)
                second = spots_of(size, board)
                self.assertIsNot(first, second)
                first.append(-1)
                first[0] = -2
                self.assertEqual(second, kept)
                self.assertEqual(spots_of(size, board), kept)
                second.clear()
                self.assertEqual(first, [-2] + kept[1:] + [-1])

    def test_somewhat_beyond_the_bounds_nothing_is_refused(self):
        self.assertEqual(spots_of(17, 10000), list(range(170000, 170017)))


class ShelfOf(unittest.TestCase):
    def test_ordinary(self):
        rows = [(4, 0, 0), (4, 3, 3), (4, 4, 0), (4, 7, 3), (10, 1234, 4), (3, 100, 1), (2, 9, 1)]
        for shelves, board, shelf in rows:
            with self.subTest(shelves=shelves, board=board):
                self.assertEqual(shelf_of(shelves, board), shelf)

    def test_edges(self):
        rows = [(1, 0, 0), (1, 1, 0), (1, 9999, 0), (64, 0, 0), (64, 63, 63), (64, 64, 0), (64, 9999, 15)]
        for shelves, board, shelf in rows:
            with self.subTest(shelves=shelves, board=board):
                self.assertEqual(shelf_of(shelves, board), shelf)

    def test_boards_go_round_the_shelves(self):
        for shelves in range(1, 65):
            shelf = 0
            for board in range(10000):
                if shelf_of(shelves, board) != shelf:
                    self.fail(f"shelves {shelves}, board {board}: {shelf_of(shelves, board)}, not {shelf}")
                shelf = 0 if shelf == shelves - 1 else shelf + 1

    def test_tells_a_whole_number(self):
        for shelves, board in [(1, 0), (2, 1), (64, 63), (64, 9999)]:
            with self.subTest(shelves=shelves, board=board):
                self.assertIs(type(shelf_of(shelves, board)), int)

    def test_somewhat_beyond_the_bounds_nothing_is_refused(self):
        self.assertEqual(shelf_of(65, 10000), 55)


if __name__ == "__main__":
    unittest.main()
