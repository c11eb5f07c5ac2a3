"""Point [4]: plans of rooms and of stairs; with point [2] over them."""

import copy
import itertools
import unittest

from nearstairs.plans import is_plan, is_room_plan, places_of

RULES = ["old", "come", "few"]
WRITINGS = ["late", "through"]
KINDS = ["within", "apart", "free"]

# Shelves are more than places may be, so that no two parts can stand for each other.
ROOM = (17, 16, "old", "late")
ROOMS = (ROOM, (1, 1, "come", "through"), (64, 16, "few", "late"), (64, 1, "old", "through"))
PLAN = (4, "within", ROOMS[:2])

NO_NUMBERS = [
    True, False, None, "", "1", "4", "old", [], (), [1], (1,), [4], (4,), ["4"], (None,), [[1]],
]
NO_WORDS = [0, 1, -1, True, False, None, [], (), "", " "]


def nested(thing, deep, brackets):
    """The thing with so many brackets round it."""
    for step in range(deep):
        thing = [thing] if brackets[step % len(brackets)] == "[" else (thing,)
    return thing


def misspelt(word):
    """The word with a letter more, less or otherwise, at each of its places."""
    wrong = [word.upper(), word.title(), word[::-1], word * 2, f" {word}", f"{word}\n"]
    for at in range(len(word) + 1):
        wrong.append(word[:at] + "x" + word[at:])
    for at in range(len(word)):
        wrong.append(word[:at] + word[at + 1:])
        wrong.append(word[:at] + "x" + word[at + 1:])
    wrong += [[word], (word,), list(word), tuple(word)]
    return wrong


def wrong_numbers(most):
    """Things that are no numbers from 1 to most."""
    return [0, -1, -most, most + 1, most * 2, 10 ** 30, -10 ** 30] + NO_NUMBERS


def wrong_words(right):
    """Things that are none of the right words."""
    wrong = list(NO_WORDS)
    for word in right:
        wrong += misspelt(word)
    wrong += [word for word in RULES + WRITINGS + KINDS if word not in right]
    return wrong + [tuple(right), list(right)]


def with_part(whole, at, part):
    """The tuple with another part at a place."""
    return whole[:at] + (part,) + whole[at + 1:]


def wrong_shapes(whole):
    """What is no right tuple of these parts: a list, parts missing, twice, too many, exchanged."""
    wrong = [list(whole), (), [], (whole,), [whole], (whole, whole), whole + whole, (list(whole),)]
    for at in range(len(whole)):
        wrong.append(whole[:at] + whole[at + 1:])
        wrong.append(whole[:at + 1] + whole[at:])
        wrong.append(whole[:at])
        wrong.append((whole[at],))
        wrong.append(whole[at])
    for more in [None, 0, 1, (), [], "late", whole[-1]]:
        wrong += [whole + (more,), (more,) + whole]
    for order in itertools.permutations(whole):
        if order != whole:
            wrong.append(order)
    return wrong


def wrong_room_plans():
    """Room plans with just one thing wrong in each, and what has another shape."""
    wrong = wrong_shapes(ROOM)
    parts = [wrong_numbers(64), wrong_numbers(16), wrong_words(RULES), wrong_words(WRITINGS)]
    for at, things in enumerate(parts):
        wrong += [with_part(ROOM, at, thing) for thing in things]
    return wrong


def wrong_rooms():
    """What is no tuple of one to four rooms' plans."""
    wrong = [(), [], None, True, 1, "", "room", ROOM, list(ROOMS), [ROOM], ((ROOM,),), ([ROOM],)]
    wrong += [ROOMS + (ROOM,), (ROOM,) * 5, (ROOM,) * 6, (ROOM,) * 500]
    for many in [1, 2, 3, 4]:
        for at in range(many):
            for room in [None, 0, "", (), [], list(ROOM), ROOM[:3], with_part(ROOM, 0, 65), PLAN]:
                wrong.append(with_part(ROOMS[:many], at, room))
    return wrong


def other_things():
    """Things altogether other than plans."""
    things = [0, 1, -1, 3, 4, 10 ** 30, True, False, None, "", "old", "within", "(1, 1, 'old', 'late')"]
    cores = [(0, 0), (None, 0), ("old", 0), (True, 0), ((), 1), ([], 1), (ROOM, 1), (PLAN, 3)]
    for core, own in cores:
        for deep in range(1, 9 - own):
            things += [nested(core, deep, "["), nested(core, deep, "("), nested(core, deep, "[(")]
    things += [[0] * 10000, (0,) * 10000, ["old"] * 3, ("old",) * 4, (None,) * 3, (1, 2, 3), (1, 2, 3, 4)]
    things += [(ROOM,) * 3, (ROOM,) * 4, (PLAN,) * 3, (PLAN,) * 4, [[], (), [()], ([],)], "a" * 10000]
    return things


class AnswersAnything(unittest.TestCase):
    def check_all_wrong(self, asked, things):
        for thing in things:
            before = copy.deepcopy(thing)
            answer = asked(thing)
            if answer is not False:
                self.fail(f"{asked.__name__}({thing!r}) told {answer!r}")
            if thing != before:
                self.fail(f"{asked.__name__} made {thing!r} of {before!r}")

    def check_all_right(self, asked, things):
        for thing in things:
            answer = asked(thing)
            if answer is not True:
                self.fail(f"{asked.__name__}({thing!r}) told {answer!r}")


class IsRoomPlan(AnswersAnything):
    def test_right_at_the_bounds(self):
        rooms = itertools.product([1, 2, 63, 64], [1, 2, 15, 16], RULES, WRITINGS)
        self.check_all_right(is_room_plan, rooms)

    def test_right_with_every_number(self):
        self.check_all_right(is_room_plan, [(many, 1, "old", "late") for many in range(1, 65)])
        self.check_all_right(is_room_plan, [(1, many, "old", "late") for many in range(1, 17)])

    def test_right_with_words_that_were_put_together(self):
        rule = "".join(["o", "l", "d"])
        writing = "".join(["l", "a", "t", "e"])
        self.check_all_right(is_room_plan, [(1, 1, rule, writing)])

    def test_wrong_shelves(self):
        self.check_all_wrong(is_room_plan, [with_part(ROOM, 0, thing) for thing in wrong_numbers(64)])

    def test_wrong_places(self):
        self.check_all_wrong(is_room_plan, [with_part(ROOM, 1, thing) for thing in wrong_numbers(16)])

    def test_wrong_rule(self):
        self.check_all_wrong(is_room_plan, [with_part(ROOM, 2, thing) for thing in wrong_words(RULES)])

    def test_wrong_writing(self):
        self.check_all_wrong(is_room_plan, [with_part(ROOM, 3, thing) for thing in wrong_words(WRITINGS)])

    def test_wrong_shapes(self):
        self.check_all_wrong(is_room_plan, wrong_shapes(ROOM))

    def test_a_plan_of_stairs_is_none(self):
        self.check_all_wrong(is_room_plan, [PLAN, (1, "free", (ROOM,)), ROOMS, (ROOM,)])

    def test_other_things(self):
        self.check_all_wrong(is_room_plan, other_things())

    def test_the_same_question_is_told_the_same(self):
        for thing in [ROOM, PLAN, list(ROOM), None]:
            with self.subTest(thing=thing):
                self.assertIs(is_room_plan(thing), is_room_plan(thing))


class IsPlan(AnswersAnything):
    def test_right_with_every_size_and_kind(self):
        self.check_all_right(is_plan, itertools.product(range(1, 17), KINDS, [(ROOM,), ROOMS]))

    def test_right_with_one_to_four_rooms(self):
        for many in [1, 2, 3, 4]:
            rows = [(4, kind, rooms) for kind in KINDS for rooms in itertools.permutations(ROOMS, many)]
            self.check_all_right(is_plan, rows)

    def test_right_with_like_rooms(self):
        self.check_all_right(is_plan, [(1, "free", (ROOM,) * many) for many in [1, 2, 3, 4]])

    def test_right_with_rooms_at_their_bounds(self):
        rooms = itertools.product([1, 64], [1, 16], RULES, WRITINGS)
        self.check_all_right(is_plan, [(16, "apart", (room,)) for room in rooms])

    def test_wrong_size(self):
        self.check_all_wrong(is_plan, [with_part(PLAN, 0, thing) for thing in wrong_numbers(16)])

    def test_wrong_kind(self):
        self.check_all_wrong(is_plan, [with_part(PLAN, 1, thing) for thing in wrong_words(KINDS)])

    def test_wrong_rooms(self):
        self.check_all_wrong(is_plan, [with_part(PLAN, 2, thing) for thing in wrong_rooms()])

    def test_a_wrong_room_at_each_place(self):
        for many in [1, 2, 3, 4]:
            for at in range(many):
                rows = [with_part(ROOMS[:many], at, room) for room in wrong_room_plans()]
                self.check_all_wrong(is_plan, [(4, "within", rooms) for rooms in rows])

    def test_wrong_shapes(self):
        self.check_all_wrong(is_plan, wrong_shapes(PLAN))

    def test_a_room_s_plan_is_none(self):
        self.check_all_wrong(is_plan, list(ROOMS) + [ROOMS, (ROOM,)])

    def test_other_things(self):
        self.check_all_wrong(is_plan, other_things())

    def test_the_same_question_is_told_the_same(self):
        for thing in [ROOM, PLAN, list(PLAN), None]:
            with self.subTest(thing=thing):
                self.assertIs(is_plan(thing), is_plan(thing))


class PlacesOf(unittest.TestCase):
    ROWS = [
        ((1, "within", ((1, 1, "old", "late"),)), [1]),
        ((16, "apart", ((64, 16, "few", "through"),)), [1024]),
        ((4, "free", ((64, 1, "come", "late"), (1, 16, "old", "through"))), [64, 16]),
        ((4, "within", ((2, 3, "old", "late"), (4, 5, "come", "through"), (6, 7, "few", "late"))), [6, 20, 42]),
        ((4, "apart", ROOMS), [272, 1, 1024, 64]),
        ((8, "free", (ROOM,) * 4), [272, 272, 272, 272]),
    ]

    def test_one_to_four_rooms(self):
        for plan, places in self.ROWS:
            with self.subTest(plan=plan):
                self.assertEqual(places_of(plan), places)

    def test_every_room_by_itself(self):
        for shelves in range(1, 65):
            total = 0
            for places in range(1, 17):
                total += shelves
                self.assertEqual(places_of((1, "free", ((shelves, places, "old", "late"),))), [total])

    def test_tells_a_list_of_whole_numbers(self):
        for plan, places in self.ROWS:
            with self.subTest(plan=plan):
                told = places_of(plan)
                self.assertIs(type(told), list)
                self.assertEqual({type(many) for many in told}, {int})

    def test_the_list_is_the_asker_s_own(self):
        for plan, places in self.ROWS:
            with self.subTest(plan=plan):
                before = copy.deepcopy(plan)
                first = places_of(plan)
                second = places_of(plan)
                self.assertIsNot(first, second)
                first.append(-1)
                first[0] = -2
                self.assertEqual(second, places)
                self.assertEqual(places_of(plan), places)
                self.assertEqual(plan, before)
                second.clear()
                self.assertEqual(first, [-2] + places[1:] + [-1])


if __name__ == "__main__":
    unittest.main()
