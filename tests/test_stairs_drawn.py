"""Points [11] to [14], with [1] and [2] over them: many drawn deeds against stairs reckoned by hand."""

import random
import unittest

from nearstairs.rows import run_row
from nearstairs.stairs import Stairs

from by_hand import (
    GREAT_WORD, KINDS, RULES, WRITINGS, HandStairs, all_lists, do_deed, drawn_boards, drawn_deeds, drawn_plans,
    state_of,
)


class Drawn(unittest.TestCase):
    def same(self, told, asked, words):
        # Python's own telling of how two long lists differ takes minutes.
        if told != asked:
            self.fail(f"{words}: told {told}, asked {asked}")


class AgainstTheHand(Drawn):
    def check_run(self, plan, deeds, boards):
        stairs, hand = Stairs(plan), HandStairs(plan)
        run = f"{plan}, {deeds}"
        for deed in deeds:
            if deed[0] == "empty":
                self.same(stairs.emptied(), hand.emptied(), run)
            elif deed[0] == "read":
                self.same(stairs.read(deed[1]), hand.read(deed[1]), run)
            else:
                self.same(stairs.write(deed[1], deed[2]), hand.write(deed[1], deed[2]), run)
            self.same(state_of(stairs, plan, boards), state_of(hand, plan, boards), run)
        self.same(stairs.emptied(), hand.emptied(), run)
        self.same(state_of(stairs, plan, boards), state_of(hand, plan, boards), run)

    def test_few_shelves(self):
        chance = random.Random(11)
        for plan in drawn_plans(12, 240, shelves=(1, 1, 2, 3), places=(1, 1, 2, 3, 5)):
            boards = drawn_boards(chance, plan)
            deeds = drawn_deeds(chance, plan[0], boards, 60)
            deeds.insert(chance.randrange(60), ("empty",))
            self.check_run(plan, deeds, boards)

    def test_farther_rooms_are_greater(self):
        chance = random.Random(13)
        for kind in KINDS:
            for many in [2, 3, 4]:
                for again in range(12):
                    rooms = tuple((1, 1 + 2 * k, chance.choice(RULES), chance.choice(WRITINGS)) for k in range(many))
                    deeds = drawn_deeds(chance, 2, range(9), 70)
                    self.check_run((2, kind, rooms), deeds, range(9))

    def test_sixty_four_shelves(self):
        chance = random.Random(14)
        for plan in drawn_plans(15, 24, shelves=(64,), places=(1, 2, 16)):
            boards = drawn_boards(chance, plan)
            self.check_run(plan, drawn_deeds(chance, plan[0], boards, 40), boards)

    def test_sixteen_places_full(self):
        chance = random.Random(16)
        for kind in KINDS:
            for rule in RULES:
                for writing in WRITINGS:
                    plan = (16, kind, ((1, 16, rule, writing), (1, 1, rule, "late"), (1, 16, rule, "late")))
                    boards = list(range(40))
                    deeds = [("write", board * 16, board) for board in range(18)]
                    deeds += drawn_deeds(chance, 16, boards, 60)
                    self.check_run(plan, deeds, boards)

    def test_every_pair_of_writings_and_rules(self):
        chance = random.Random(17)
        for kind in KINDS:
            for near in RULES:
                for far in RULES:
                    for writings in [("late", "late"), ("late", "through"), ("through", "late"),
                                     ("through", "through")]:
                        plan = (1, kind, ((1, 2, near, writings[0]), (1, 3, far, writings[1])))
                        self.check_run(plan, drawn_deeds(chance, 1, range(6), 40), range(6))

    def test_four_hundred_deeds(self):
        chance = random.Random(18)
        for plan in drawn_plans(19, 12, shelves=(1, 2), places=(1, 2, 4)):
            boards = drawn_boards(chance, plan)
            stairs, hand = Stairs(plan), HandStairs(plan)
            deeds = drawn_deeds(chance, plan[0], boards, 400)
            self.same([do_deed(stairs, deed) for deed in deeds], [do_deed(hand, deed) for deed in deeds], plan)
            self.same(state_of(stairs, plan, boards), state_of(hand, plan, boards), plan)


class OneRoomAlone(Drawn):
    def check_row(self, plan, row):
        size, kind, ((shelves, places, rule, writing),) = plan
        stairs = Stairs(plan)
        for board, (found, out) in zip(row, run_row(shelves, places, rule, row)):
            told = [("found", 0 if found else 1)]
            if out is not None:
                told.append(("out", 0, out))
            if not found:
                told.append(("in", 0, board))
            self.same(stairs.read(board * size), (0, told), f"{plan}, {row}")

    def test_reads_are_as_a_room_s(self):
        chance = random.Random(20)
        for kind in KINDS:
            for rule in RULES:
                for shelves, places in [(1, 1), (1, 3), (2, 2), (64, 1), (1, 16)]:
                    for size in [1, 16]:
                        row = [chance.choice([0, 1, 2, 3, 64, 128, 192]) for at in range(60)]
                        row += [chance.randrange(24) for at in range(60)]
                        self.check_row((size, kind, ((shelves, places, rule, "late"),)), row)


class Promised(Drawn):
    """Point [14], and what point [1] says of stairs, against a book of the last words written."""

    def runs(self):
        chance = random.Random(21)
        runs = []
        for plan in drawn_plans(22, 72, shelves=(1, 1, 2, 64), places=(1, 1, 2, 4, 16)):
            boards = drawn_boards(chance, plan)
            runs.append((plan, drawn_deeds(chance, plan[0], boards, chance.choice([50, 150, 400]))))
        return runs

    def book_of(self, deeds):
        return {deed[1]: deed[2] for deed in deeds if deed[0] == "write"}

    def test_each_read_tells_the_last_word_written(self):
        for plan, deeds in self.runs():
            run = f"{plan}, {deeds}"
            stairs, book = Stairs(plan), {}
            for deed in deeds:
                if deed[0] == "read":
                    self.same(stairs.read(deed[1])[0], book.get(deed[1], 0), run)
                else:
                    stairs.write(deed[1], deed[2])
                    book[deed[1]] = deed[2]
            for spot in sorted(book) + [7]:
                self.same(stairs.read(spot)[0], book.get(spot, 0), run)

    def test_behind_emptied(self):
        for plan, deeds in self.runs():
            run = f"{plan}, {deeds}"
            stairs = Stairs(plan)
            for deed in deeds:
                do_deed(stairs, deed)
            stairs.emptied()
            for k in range(len(plan[2])):
                self.same((stairs.lies(k), stairs.changed(k)), ([], []), run)
            pairs = sorted((spot, word) for spot, word in self.book_of(deeds).items() if word != 0)
            self.same(stairs.memory(), pairs, run)
            self.same(stairs.emptied(), [], run)
            for spot, word in pairs[:9]:
                self.same(stairs.read(spot)[0], word, run)

    def test_within_what_lies_in_a_stair_lies_in_the_next(self):
        for plan, deeds in self.runs():
            run = f"{plan}, {deeds}"
            if plan[1] != "within":
                continue
            stairs = Stairs(plan)
            for deed in deeds:
                do_deed(stairs, deed)
                rooms = [set(stairs.lies(k)) for k in range(len(plan[2]))]
                self.assertTrue(all(near <= far for near, far in zip(rooms, rooms[1:])), run)

    def test_apart_no_board_lies_in_two_stairs(self):
        for plan, deeds in self.runs():
            run = f"{plan}, {deeds}"
            if plan[1] != "apart":
                continue
            stairs = Stairs(plan)
            for deed in deeds:
                do_deed(stairs, deed)
                boards = [board for k in range(len(plan[2])) for board in stairs.lies(k)]
                self.assertEqual(len(boards), len(set(boards)), run)

    def test_changed_ones_lie_there_and_through_rooms_have_none(self):
        for plan, deeds in self.runs():
            run = f"{plan}, {deeds}"
            stairs = Stairs(plan)
            for deed in deeds:
                do_deed(stairs, deed)
                for k, room in enumerate(plan[2]):
                    changed = stairs.changed(k)
                    self.assertEqual(changed, sorted(set(changed) & set(stairs.lies(k))), run)
                    self.assertFalse(changed and room[3] == "through", run)

    def test_great_words_and_noughts(self):
        for kind in KINDS:
            for writing in WRITINGS:
                with self.subTest(kind=kind, writing=writing):
                    stairs = Stairs((3, kind, ((1, 1, "old", writing), (1, 2, "old", writing))))
                    words = [GREAT_WORD, -GREAT_WORD, 0, 1, -1, 10 ** 29]
                    for spot, word in enumerate(words):
                        stairs.write(spot * 2, word)
                    self.assertEqual([stairs.read(spot * 2)[0] for spot in range(6)], words)
                    self.assertEqual([stairs.read(spot * 2 + 1)[0] for spot in range(6)], [0] * 6)
                    stairs.write(0, 0)
                    stairs.emptied()
                    self.assertEqual(stairs.memory(), [(2, -GREAT_WORD), (6, 1), (8, -1), (10, 10 ** 29)])


class EmptiedAndUsedAgain(Drawn):
    def test_as_new_ones(self):
        chance = random.Random(23)
        for plan in drawn_plans(24, 72, shelves=(1, 2, 3), places=(1, 2, 3)):
            boards = drawn_boards(chance, plan)
            used, new = Stairs(plan), Stairs(plan)
            for deed in drawn_deeds(chance, plan[0], boards, 60):
                do_deed(used, deed)
            used.emptied()
            # The memory keeps its words; with all written anew both have the same.
            kept = used.memory()
            for spot, word in kept:
                self.same(used.write(spot, word), new.write(spot, word), plan)
            self.same(used.emptied(), new.emptied(), plan)
            self.same(new.memory(), kept, plan)
            for deed in drawn_deeds(chance, plan[0], boards, 60):
                self.same(do_deed(used, deed), do_deed(new, deed), plan)
                self.same(state_of(used, plan, boards), state_of(new, plan, boards), plan)


class AskersOwn(Drawn):
    def test_told_lists_changed_by_the_asker_change_nothing(self):
        chance = random.Random(25)
        for plan in drawn_plans(26, 36, shelves=(1, 2), places=(1, 2, 3)):
            boards = drawn_boards(chance, plan)
            spoiled, left = Stairs(plan), Stairs(plan)
            for deed in drawn_deeds(chance, plan[0], boards, 40):
                told = do_deed(spoiled, deed)
                self.same(told, do_deed(left, deed), plan)
                told.append(("out", 0, 1))
                told[0] = 5
                for things in all_lists(state_of(spoiled, plan, boards)):
                    things.clear()
                    things.append(77)
                self.same(state_of(spoiled, plan, boards), state_of(left, plan, boards), plan)
            told = spoiled.emptied()
            self.same(told, left.emptied(), plan)
            told.clear()
            self.same(spoiled.memory(), left.memory(), plan)

    def test_no_two_lists_are_one_and_the_same(self):
        for kind in KINDS:
            with self.subTest(kind=kind):
                plan = (2, kind, ((1, 2, "old", "late"), (1, 3, "few", "through")))
                stairs = Stairs(plan)
                told = [stairs.read(0)[1], stairs.write(3, 1), stairs.emptied(), stairs.emptied(), stairs.read(1)[1]]
                told += all_lists(state_of(stairs, plan, range(4))) + all_lists(state_of(stairs, plan, range(4)))
                self.assertEqual(len({id(things) for things in told}), len(told))

    def test_nothing_done_later_changes_what_was_told(self):
        chance = random.Random(27)
        for plan in drawn_plans(28, 24, shelves=(1, 2), places=(1, 2)):
            boards = drawn_boards(chance, plan)
            stairs = Stairs(plan)
            told, copies = [], []
            for deed in drawn_deeds(chance, plan[0], boards, 30):
                now = [do_deed(stairs, deed), state_of(stairs, plan, boards)]
                told.append(now)
                copies.append(repr(now))
            stairs.emptied()
            self.same([repr(now) for now in told], copies, plan)

    def test_asking_changes_nothing_and_is_told_the_same_again(self):
        chance = random.Random(29)
        for plan in drawn_plans(30, 24, shelves=(1, 2), places=(1, 2, 3)):
            boards = drawn_boards(chance, plan)
            asked, left = Stairs(plan), Stairs(plan)
            for deed in drawn_deeds(chance, plan[0], boards, 40):
                self.same(do_deed(asked, deed), do_deed(left, deed), plan)
                self.same(state_of(asked, plan, boards), state_of(asked, plan, boards), plan)

    def test_two_stairs_of_one_plan_do_not_touch_each_other(self):
        chance = random.Random(31)
        for plan in drawn_plans(32, 24, shelves=(1, 2), places=(1, 2, 3)):
            boards = drawn_boards(chance, plan)
            runs = [drawn_deeds(chance, plan[0], boards, 40) for again in range(2)]
            alone = []
            for deeds in runs:
                stairs = Stairs(plan)
                alone.append([(do_deed(stairs, deed), state_of(stairs, plan, boards)) for deed in deeds])
            pair = [Stairs(plan), Stairs(plan)]
            turns = [[], []]
            for deeds in zip(*runs):
                for at in [0, 1]:
                    turns[at].append((do_deed(pair[at], deeds[at]), state_of(pair[at], plan, boards)))
            self.same(turns, alone, plan)


if __name__ == "__main__":
    unittest.main()
