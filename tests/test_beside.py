"""Points [16] and [17]: two near rooms beside each other that share a far one; with [1] and [2] over them."""

import random
import unittest

from nearstairs.beside import Beside
from nearstairs.errors import NoStair, NotThere

from by_hand import GREAT_WORD, RULES, WRITINGS, HandBeside, all_lists, drawn_word


def room(places, writing="late", rule="old", shelves=1):
    return (shelves, places, rule, writing)


def deeds_of(chance, size, boards, many):
    """Reads and writes by either hand: ("read", hand, spot) and ("write", hand, spot, word)."""
    deeds = []
    for at in range(many):
        hand = chance.randrange(2)
        spot = chance.choice(boards) * size + chance.randrange(size)
        deeds.append(("read", hand, spot) if chance.random() < 0.5 else ("write", hand, spot, drawn_word(chance)))
    return deeds


def told_by(beside, deed):
    """What a deed tells: a pair of the word (None of a write) and the events."""
    if deed[0] == "read":
        return beside.read(deed[1], deed[2])
    return (None, beside.write(deed[1], deed[2], deed[3]))


def state(beside, boards):
    """All that Beside can be asked about these boards."""
    rooms = [(beside.lies(k), beside.changed(k)) for k in range(3)]
    words = [[(board, beside.words(k, board)) for board in beside.lies(k)] for k in range(3)]
    return [rooms, words, [beside.words(3, board) for board in boards], beside.memory()]


def drawn_makings(seed, many):
    """What Beside is made of: sizes, near and far plans, the far one mostly the greater."""
    chance = random.Random(seed)
    makings = []
    for at in range(many):
        near = (chance.choice([1, 1, 2]), chance.choice([1, 1, 2, 3]), RULES[at % 3], WRITINGS[at // 3 % 2])
        far = (chance.choice([1, 1, 2, 3]), chance.choice([1, 2, 3, 5]), RULES[at // 6 % 3], WRITINGS[at // 18 % 2])
        makings.append((chance.choice([1, 2, 3, 16]), near, far))
    return makings


class Told(unittest.TestCase):
    def check_rooms(self, beside, lies, changed):
        self.assertEqual([beside.lies(k) for k in range(3)], lies)
        self.assertEqual([beside.changed(k) for k in range(3)], changed)

    def same(self, told, asked, words):
        # Python's own telling of how two long lists differ takes minutes.
        if told != asked:
            self.fail(f"{words}: told {told}, asked {asked}")


class Reading(Told):
    def test_new_ones_are_empty(self):
        beside = Beside(3, room(2), room(4))
        self.check_rooms(beside, [[], [], []], [[], [], []])
        self.assertEqual(beside.memory(), [])
        self.assertEqual(beside.words(3, 7), [0, 0, 0])
        self.assertEqual(beside.words(3, 9999), [0, 0, 0])
        self.assertEqual(beside.emptied(), [])

    def test_from_the_memory_from_the_far_room_and_from_the_own_one(self):
        for hand in [0, 1]:
            with self.subTest(hand=hand):
                beside = Beside(2, room(1), room(2))
                self.assertEqual(beside.read(hand, 3), (0, [("found", 3), ("in", 2, 1), ("in", hand, 1)]))
                self.assertEqual(beside.read(hand, 2), (0, [("found", hand)]))
                self.assertEqual(beside.read(1 - hand, 2), (0, [("found", 2), ("in", 1 - hand, 1)]))
                self.check_rooms(beside, [[1], [1], [1]], [[], [], []])

    def test_a_full_near_shelf(self):
        beside = Beside(1, room(1), room(4))
        beside.read(0, 0)
        self.assertEqual(beside.read(0, 1), (0, [("found", 3), ("in", 2, 1), ("out", 0, 0), ("in", 0, 1)]))
        self.check_rooms(beside, [[1], [], [0, 1]], [[], [], []])
        beside.write(0, 1, 5)
        self.assertEqual(beside.read(0, 0), (0, [("found", 2), ("out", 0, 1), ("words", 2, 1), ("in", 0, 0)]))
        self.check_rooms(beside, [[0], [], [0, 1]], [[], [], [1]])
        self.assertEqual([beside.words(2, 1), beside.words(3, 1)], [[5], [0]])

    def test_a_full_near_shelf_and_a_far_room_through(self):
        beside = Beside(1, room(1), room(4, "through"))
        beside.write(1, 0, 5)
        self.assertEqual(beside.read(1, 1), (0, [("found", 3), ("in", 2, 1), ("out", 1, 0), ("words", 2, 0),
                                                 ("words", 3, 0), ("in", 1, 1)]))
        self.check_rooms(beside, [[], [1], [0, 1]], [[], [], []])
        self.assertEqual(beside.memory(), [(0, 5)])

    def test_changed_in_the_other_near_room(self):
        for hand in [0, 1]:
            with self.subTest(hand=hand):
                beside = Beside(2, room(1), room(2))
                beside.write(1 - hand, 1, 5)
                self.assertEqual(beside.read(hand, 1), (5, [("found", 2), ("words", 2, 0), ("in", hand, 0)]))
                self.check_rooms(beside, [[0], [0], [0]], [[], [], [0]])
                self.assertEqual([beside.words(k, 0) for k in range(4)], [[0, 5], [0, 5], [0, 5], [0, 0]])
                self.assertEqual(beside.read(1 - hand, 1), (5, [("found", 1 - hand)]))

    def test_changed_in_the_other_near_room_and_a_far_room_through(self):
        beside = Beside(1, room(1), room(2, "through"))
        beside.write(1, 0, 5)
        self.assertEqual(beside.read(0, 0), (5, [("found", 2), ("words", 2, 0), ("words", 3, 0), ("in", 0, 0)]))
        self.check_rooms(beside, [[0], [0], [0]], [[], [], []])

    def test_the_other_hand_s_words_are_put_ahead_of_the_own_out(self):
        beside = Beside(1, room(1), room(2))
        beside.write(0, 0, 5)
        beside.write(1, 1, 6)
        self.assertEqual(beside.read(0, 1), (6, [("found", 2), ("words", 2, 1), ("out", 0, 0), ("words", 2, 0),
                                                 ("in", 0, 1)]))
        self.check_rooms(beside, [[1], [1], [0, 1]], [[], [], [0, 1]])


class FullFarShelves(Told):
    def far_full(self, far, *deeds):
        """Near rooms of two places, and a far one of two that lets go the one that came first: board 0 goes next."""
        beside = Beside(1, room(2), far)
        for deed in deeds:
            told_by(beside, deed)
        return beside

    def test_the_one_that_goes_lies_in_no_near_room(self):
        beside = Beside(1, room(1), room(2))
        beside.read(0, 0)
        beside.read(0, 1)
        self.assertEqual(beside.read(1, 2), (0, [("found", 3), ("out", 2, 0), ("in", 2, 2), ("in", 1, 2)]))

    def test_in_no_near_room_changed_in_the_far_one(self):
        beside = Beside(1, room(1), room(2))
        beside.write(0, 0, 5)
        beside.read(0, 1)
        self.check_rooms(beside, [[1], [], [0, 1]], [[], [], [0]])
        self.assertEqual(beside.read(1, 2),
                         (0, [("found", 3), ("out", 2, 0), ("words", 3, 0), ("in", 2, 2), ("in", 1, 2)]))
        self.assertEqual(beside.memory(), [(0, 5)])

    def test_in_one_near_room(self):
        for hand in [0, 1]:
            with self.subTest(hand=hand):
                beside = self.far_full(room(2, rule="come"), ("read", hand, 0), ("read", hand, 1))
                self.assertEqual(beside.read(hand, 2), (0, [("found", 3), ("out", 2, 0), ("out", hand, 0),
                                                            ("in", 2, 2), ("in", hand, 2)]))
                self.assertEqual(beside.lies(hand), [1, 2])

    def test_in_both_near_rooms(self):
        for hand in [0, 1]:
            with self.subTest(hand=hand):
                beside = self.far_full(room(2, rule="come"), ("read", 0, 0), ("read", 1, 0), ("read", 0, 1))
                self.assertEqual(beside.read(hand, 2), (0, [("found", 3), ("out", 2, 0), ("out", 0, 0), ("out", 1, 0),
                                                            ("in", 2, 2), ("in", hand, 2)]))

    def test_in_both_near_rooms_changed_in_the_far_one(self):
        beside = self.far_full(room(2, rule="come"), ("write", 0, 0, 5), ("read", 1, 0), ("read", 0, 1))
        self.check_rooms(beside, [[0, 1], [0], [0, 1]], [[], [], [0]])
        self.assertEqual(beside.read(1, 2), (0, [("found", 3), ("out", 2, 0), ("out", 0, 0), ("out", 1, 0),
                                                 ("words", 3, 0), ("in", 2, 2), ("in", 1, 2)]))
        self.assertEqual(beside.memory(), [(0, 5)])

    def test_changed_in_a_near_room(self):
        for hand in [0, 1]:
            for far in [room(2, rule="come"), room(2, "through", "come")]:
                with self.subTest(hand=hand, far=far):
                    beside = self.far_full(far, ("write", hand, 0, 5), ("read", hand, 1))
                    self.assertEqual(beside.read(1 - hand, 2), (0, [
                        ("found", 3), ("out", 2, 0), ("out", hand, 0), ("words", 3, 0), ("in", 2, 2),
                        ("in", 1 - hand, 2)]))
                    self.assertEqual(beside.memory(), [(0, 5)])
                    self.assertEqual(beside.lies(hand), [1])

    def test_changed_in_a_near_room_and_in_the_far_one(self):
        for hand in [0, 1]:
            with self.subTest(hand=hand):
                beside = self.far_full(room(2, rule="come"), ("write", 1 - hand, 0, 5), ("write", hand, 0, 6),
                                       ("read", hand, 1))
                self.assertEqual((beside.changed(hand), beside.changed(2)), ([0], [0]))
                self.assertEqual([beside.words(hand, 0), beside.words(2, 0)], [[6], [5]])
                self.assertEqual(beside.read(hand, 2), (0, [("found", 3), ("out", 2, 0), ("out", hand, 0),
                                                            ("words", 3, 0), ("in", 2, 2), ("in", hand, 2)]))
                self.assertEqual(beside.memory(), [(0, 6)])

    def test_found_near_is_not_used_in_the_far_room(self):
        for rule in RULES:
            with self.subTest(rule=rule):
                beside = self.far_full(room(2, rule=rule), ("read", 0, 0), ("read", 0, 1), ("read", 0, 0))
                self.assertEqual(beside.read(1, 2)[1][1], ("out", 2, 0))

    def test_found_in_the_far_room_is_used_there(self):
        for rule, out in [("old", 1), ("come", 0), ("few", 1)]:
            with self.subTest(rule=rule):
                beside = self.far_full(room(2, rule=rule), ("read", 0, 0), ("read", 0, 1), ("read", 1, 0))
                self.assertEqual(beside.read(1, 2)[1][1], ("out", 2, out))

    def test_words_put_down_use_nothing(self):
        beside = self.far_full(room(3), ("write", 0, 0, 5), ("read", 0, 1), ("read", 0, 2))
        self.check_rooms(beside, [[1, 2], [], [0, 1, 2]], [[], [], [0]])
        self.assertEqual(beside.read(1, 3)[1], [("found", 3), ("out", 2, 0), ("words", 3, 0), ("in", 2, 3),
                                                ("in", 1, 3)])


class Writing(Told):
    def test_from_the_memory(self):
        for hand in [0, 1]:
            for writing in WRITINGS:
                with self.subTest(hand=hand, writing=writing):
                    beside = Beside(2, room(1), room(2, writing))
                    self.assertEqual(beside.write(hand, 1, 5), [("found", 3), ("in", 2, 0), ("in", hand, 0)])
                    self.assertEqual([beside.changed(k) for k in [hand, 1 - hand, 2]], [[0], [], []])
                    self.assertEqual([beside.words(hand, 0), beside.words(2, 0)], [[0, 5], [0, 0]])
                    self.assertEqual(beside.write(hand, 0, 4), [("found", hand)])
                    self.assertEqual(beside.words(hand, 0), [4, 5])

    def test_near_through_far_late(self):
        beside = Beside(1, room(1, "through"), room(2))
        self.assertEqual(beside.write(0, 0, 5), [("found", 3), ("in", 2, 0), ("in", 0, 0), ("words", 2, 0)])
        self.check_rooms(beside, [[0], [], [0]], [[], [], [0]])
        self.assertEqual([beside.words(k, 0) for k in [0, 2, 3]], [[5], [5], [0]])
        self.assertEqual(beside.read(1, 0), (5, [("found", 2), ("in", 1, 0)]))

    def test_near_through_far_through(self):
        beside = Beside(1, room(1, "through"), room(2, "through"))
        self.assertEqual(beside.write(1, 0, 5),
                         [("found", 3), ("in", 2, 0), ("in", 1, 0), ("words", 2, 0), ("words", 3, 0)])
        self.check_rooms(beside, [[], [0], [0]], [[], [], []])
        self.assertEqual(beside.memory(), [(0, 5)])

    def test_the_other_hand_s_board_goes(self):
        for hand in [0, 1]:
            with self.subTest(hand=hand):
                beside = Beside(1, room(1), room(2))
                beside.read(1 - hand, 0)
                self.assertEqual(beside.write(hand, 0, 5), [("found", 2), ("in", hand, 0), ("out", 1 - hand, 0)])
                self.assertEqual((beside.lies(hand), beside.lies(1 - hand), beside.changed(hand)), ([0], [], [0]))

    def test_the_other_hand_s_board_goes_where_it_lies_in_both(self):
        for writing, words in [("late", []), ("through", [("words", 2, 0)])]:
            with self.subTest(writing=writing):
                beside = Beside(1, room(1, writing), room(2))
                beside.read(0, 0)
                beside.read(1, 0)
                self.assertEqual(beside.write(0, 0, 5), [("found", 0), ("out", 1, 0)] + words)
                self.assertEqual(beside.read(1, 0)[0], 5)

    def test_changed_in_the_other_near_room(self):
        for hand in [0, 1]:
            with self.subTest(hand=hand):
                beside = Beside(2, room(1), room(2))
                beside.write(1 - hand, 0, 5)
                self.assertEqual(beside.write(hand, 1, 6), [("found", 2), ("words", 2, 0), ("in", hand, 0),
                                                            ("out", 1 - hand, 0)])
                self.assertEqual(beside.words(hand, 0), [5, 6])
                self.assertEqual(beside.words(2, 0), [5, 0])
                self.assertEqual((beside.changed(hand), beside.changed(1 - hand), beside.changed(2)), ([0], [], [0]))

    def test_changed_in_the_other_near_room_all_through_and_full(self):
        beside = Beside(1, room(1), room(2, "through"))
        beside.write(0, 0, 5)
        beside.write(1, 1, 6)
        self.assertEqual(beside.write(0, 1, 7), [
            ("found", 2), ("words", 2, 1), ("words", 3, 1), ("out", 0, 0), ("words", 2, 0), ("words", 3, 0),
            ("in", 0, 1), ("out", 1, 1)])
        self.check_rooms(beside, [[1], [], [0, 1]], [[1], [], []])
        self.assertEqual(beside.memory(), [(0, 5), (1, 6)])


class Emptying(Told):
    def test_far_late(self):
        beside = Beside(1, room(2), room(4))
        for deed in [("write", 1, 3, 6), ("write", 0, 2, 5), ("read", 0, 0), ("read", 1, 0), ("write", 1, 1, 7)]:
            told_by(beside, deed)
        self.check_rooms(beside, [[0, 2], [0, 1], [0, 1, 2, 3]], [[2], [1], [3]])
        self.assertEqual(beside.emptied(), [
            ("out", 0, 0), ("out", 0, 2), ("words", 2, 2), ("out", 1, 0), ("out", 1, 1), ("words", 2, 1),
            ("out", 2, 0), ("out", 2, 1), ("words", 3, 1), ("out", 2, 2), ("words", 3, 2), ("out", 2, 3),
            ("words", 3, 3)])
        self.check_rooms(beside, [[], [], []], [[], [], []])
        self.assertEqual(beside.memory(), [(1, 7), (2, 5), (3, 6)])
        self.assertEqual(beside.emptied(), [])

    def test_far_through(self):
        beside = Beside(1, room(2), room(4, "through"))
        for deed in [("write", 1, 3, 6), ("write", 0, 2, 5)]:
            told_by(beside, deed)
        self.assertEqual(beside.emptied(), [
            ("out", 0, 2), ("words", 2, 2), ("words", 3, 2), ("out", 1, 3), ("words", 2, 3), ("words", 3, 3),
            ("out", 2, 2), ("out", 2, 3)])
        self.assertEqual(beside.memory(), [(2, 5), (3, 6)])


class AgainstTheHand(Told):
    def check_run(self, making, deeds, boards):
        beside, hand = Beside(*making), HandBeside(*making)
        run = f"{making}, {deeds}"
        for deed in deeds:
            self.same(told_by(beside, deed), told_by(hand, deed), run)
            self.same(state(beside, boards), state(hand, boards), run)
        self.same(beside.emptied(), hand.emptied(), run)
        self.same(state(beside, boards), state(hand, boards), run)

    def test_few_places(self):
        chance = random.Random(51)
        for making in drawn_makings(52, 216):
            self.check_run(making, deeds_of(chance, making[0], range(7), 50), range(7))

    def test_many_places_and_shelves(self):
        chance = random.Random(53)
        for near, far in [((64, 1), (64, 2)), ((1, 16), (1, 16)), ((1, 4), (64, 16)), ((64, 16), (1, 1))]:
            for rule in RULES:
                for writing in WRITINGS:
                    making = (16, near + (rule, writing), far + (rule, "late"))
                    boards = [0, 64, 128, 192, 1, 2, 3] + list(range(400, 414))
                    self.check_run(making, deeds_of(chance, 16, boards, 100), boards)

    def test_four_hundred_deeds(self):
        chance = random.Random(54)
        for making in drawn_makings(55, 6):
            self.check_run(making, deeds_of(chance, making[0], range(9), 400), range(9))


class Promised(Told):
    def runs(self):
        chance = random.Random(56)
        return [(making, deeds_of(chance, making[0], range(8), chance.choice([40, 120, 400])))
                for making in drawn_makings(57, 72)]

    def test_each_read_tells_the_last_word_written_by_either(self):
        for making, deeds in self.runs():
            run = f"{making}, {deeds}"
            beside, book = Beside(*making), {}
            for deed in deeds:
                word = told_by(beside, deed)[0]
                if deed[0] == "read":
                    self.same(word, book.get(deed[2], 0), run)
                else:
                    book[deed[2]] = deed[3]
            for spot in range(8 * making[0]):
                for hand in [0, 1]:
                    self.same(beside.read(hand, spot)[0], book.get(spot, 0), run)
            beside.emptied()
            self.same(beside.memory(), sorted(pair for pair in book.items() if pair[1] != 0), run)
            self.same([beside.lies(k) for k in range(3)], [[], [], []], run)

    def test_what_lies_where(self):
        for making, deeds in self.runs():
            run = f"{making}, {deeds}"
            beside = Beside(*making)
            for deed in deeds:
                told_by(beside, deed)
                near = [set(beside.lies(k)) for k in [0, 1]]
                self.assertLessEqual(near[0] | near[1], set(beside.lies(2)), run)
                for k in [0, 1]:
                    self.assertEqual(set(beside.changed(k)) & near[1 - k], set(), run)
                    self.assertLessEqual(set(beside.changed(k)), near[k], run)
                for board in near[0] & near[1]:
                    self.assertEqual(beside.words(0, board), beside.words(1, board), run)

    def test_the_hands_exchanged(self):
        # Only a board that goes from both near rooms, and emptied, name room 0 ahead of room 1 whichever hand it is.
        def exchanged(event):
            return event[:1] + ((1, 0, 2, 3)[event[1]],) + event[2:]

        for making, deeds in self.runs():
            run = f"{making}, {deeds}"
            straight, crossed = Beside(*making), Beside(*making)
            for deed in deeds:
                word, events = told_by(straight, deed)
                other = told_by(crossed, deed[:1] + (1 - deed[1],) + deed[2:])
                self.same(word, other[0], run)
                self.same(events[0], exchanged(other[1][0]), run)
                self.same(sorted(events), sorted(exchanged(event) for event in other[1]), run)
                for k, across in [(0, 1), (1, 0), (2, 2)]:
                    self.same(straight.lies(k), crossed.lies(across), run)
                    self.same(straight.changed(k), crossed.changed(across), run)
                    for board in straight.lies(k):
                        self.same(straight.words(k, board), crossed.words(across, board), run)
                self.same(straight.memory(), crossed.memory(), run)

    def test_great_words_and_noughts(self):
        for near in WRITINGS:
            for far in WRITINGS:
                with self.subTest(near=near, far=far):
                    beside = Beside(3, room(1, near), room(2, far))
                    words = [GREAT_WORD, -GREAT_WORD, 0, 1, -1, 10 ** 29]
                    for spot, word in enumerate(words):
                        beside.write(spot % 2, spot * 2, word)
                    for hand in [0, 1]:
                        self.assertEqual([beside.read(hand, spot * 2)[0] for spot in range(6)], words)
                    beside.write(1, 0, 0)
                    beside.emptied()
                    self.assertEqual(beside.memory(), [(2, -GREAT_WORD), (6, 1), (8, -1), (10, 10 ** 29)])

    def test_emptied_and_used_again(self):
        chance = random.Random(58)
        for making in drawn_makings(59, 36):
            used, new = Beside(*making), Beside(*making)
            for deed in deeds_of(chance, making[0], range(7), 60):
                told_by(used, deed)
            used.emptied()
            kept = used.memory()
            # The memory keeps its words; with all written anew both have the same.
            for spot, word in kept:
                self.same(used.write(0, spot, word), new.write(0, spot, word), making)
            self.same(used.emptied(), new.emptied(), making)
            self.same(new.memory(), kept, making)
            for deed in deeds_of(chance, making[0], range(7), 60):
                self.same(told_by(used, deed), told_by(new, deed), making)
                self.same(state(used, range(7)), state(new, range(7)), making)


class Refusing(Told):
    def check_refused(self, making, refusal, ask):
        chance = random.Random(60)
        before = deeds_of(chance, making[0], range(6), 40)
        behind = deeds_of(chance, making[0], range(6), 25)
        beside, twin = Beside(*making), Beside(*making)
        for deed in before:
            told_by(beside, deed)
            told_by(twin, deed)
        with self.assertRaises(refusal) as caught:
            ask(beside)
        self.assertIs(type(caught.exception), refusal)
        self.same(state(beside, range(6)), state(twin, range(6)), making)
        for deed in behind:
            self.same(told_by(beside, deed), told_by(twin, deed), making)
        self.same(beside.emptied(), twin.emptied(), making)

    def test_no_stair(self):
        for making in drawn_makings(61, 6):
            for k in [-1, -2, -3, -4, 3, 4, 5, 99, -99]:
                with self.subTest(making=making, k=k):
                    self.check_refused(making, NoStair, lambda beside: beside.lies(k))
                    self.check_refused(making, NoStair, lambda beside: beside.changed(k))
            for k in [-1, -2, -3, -4, 4, 5, 99, -99]:
                for board in [0, 1, 4321]:
                    with self.subTest(making=making, k=k, board=board):
                        self.check_refused(making, NoStair, lambda beside: beside.words(k, board))

    def test_not_there(self):
        for making in drawn_makings(62, 12):
            for k in [0, 1, 2]:
                with self.subTest(making=making, k=k):
                    self.check_refused(making, NotThere, lambda beside: beside.words(k, 4321))
                    self.check_refused(making, NotThere, lambda beside: beside.words(
                        k, [board for board in range(30) if board not in beside.lies(k)][0]))

    def test_one_that_lies_in_the_other_near_room_alone(self):
        beside = Beside(1, room(1), room(2))
        beside.read(0, 0)
        self.assertEqual(beside.words(0, 0), [0])
        self.assertRaises(NotThere, beside.words, 1, 0)
        self.assertEqual(beside.words(3, 77), [0])


class AskersOwn(Told):
    def test_told_lists_changed_by_the_asker_change_nothing(self):
        chance = random.Random(63)
        for making in drawn_makings(64, 36):
            spoiled, left = Beside(*making), Beside(*making)
            for deed in deeds_of(chance, making[0], range(6), 40):
                told = told_by(spoiled, deed)
                self.same(told, told_by(left, deed), making)
                told[1].append(("out", 0, 1))
                told[1][0] = 5
                for things in all_lists(state(spoiled, range(6))):
                    things.clear()
                    things.append(77)
                self.same(state(spoiled, range(6)), state(left, range(6)), making)
            self.same(spoiled.emptied(), left.emptied(), making)

    def test_no_two_lists_are_one_and_the_same(self):
        beside = Beside(2, room(2), room(3))
        told = [beside.read(0, 0)[1], beside.read(1, 0)[1], beside.write(0, 3, 1), beside.emptied(),
                beside.emptied(), beside.read(1, 1)[1], beside.read(0, 1)[1]]
        told += all_lists(state(beside, range(4))) + all_lists(state(beside, range(4)))
        self.assertEqual(len({id(things) for things in told}), len(told))

    def test_nothing_done_later_changes_what_was_told(self):
        chance = random.Random(65)
        for making in drawn_makings(66, 18):
            beside = Beside(*making)
            told, copies = [], []
            for deed in deeds_of(chance, making[0], range(6), 30):
                now = [told_by(beside, deed), state(beside, range(6))]
                told.append(now)
                copies.append(repr(now))
            beside.emptied()
            self.same([repr(now) for now in told], copies, making)

    def test_asking_changes_nothing_and_two_do_not_touch_each_other(self):
        chance = random.Random(67)
        for making in drawn_makings(68, 18):
            runs = [deeds_of(chance, making[0], range(6), 40) for again in range(2)]
            alone = []
            for deeds in runs:
                beside = Beside(*making)
                alone.append([told_by(beside, deed) for deed in deeds])
            pair, turns = [Beside(*making), Beside(*making)], [[], []]
            for deeds in zip(*runs):
                for at in [0, 1]:
                    turns[at].append(told_by(pair[at], deeds[at]))
                    self.same(state(pair[at], range(6)), state(pair[at], range(6)), making)
            self.same(turns, alone, making)

    def test_kinds_of_what_is_told(self):
        beside = Beside(2, room(1), room(2, "through"))
        told = beside.read(0, 0)
        self.assertEqual((type(told), len(told), type(told[0]), type(told[1])), (tuple, 2, int, list))
        for events in [told[1], beside.write(1, 1, 5), beside.write(0, 2, 6), beside.emptied()]:
            self.assertIs(type(events), list)
            for event in events:
                self.assertIs(type(event), tuple)
                self.assertEqual([type(thing) for thing in event], [str, int, int][:len(event)])


if __name__ == "__main__":
    unittest.main()
