"""Point [18]: runs told, looked at and counted; with point [2] over them."""

import copy
import random
import unittest

from nearstairs.looking import shows_run, tally, told_run
from nearstairs.stairs import Stairs

from by_hand import (
    KINDS, RULES, HandStairs, all_lists, do_deed, drawn_boards, drawn_deeds, drawn_plans,
)

PLAN = (2, "within", ((1, 1, "old", "late"), (1, 2, "old", "late")))
DEEDS = [("write", 1, 7), ("read", 2), ("write", 5, -3), ("read", 0)]
TOLD = [
    [("found", 2), ("in", 1, 0), ("in", 0, 0)],
    [("found", 2), ("in", 1, 1), ("out", 0, 0), ("words", 1, 0), ("in", 0, 1)],
    [("found", 2), ("out", 1, 0), ("words", 2, 0), ("in", 1, 2), ("out", 0, 1), ("in", 0, 2)],
    [("found", 2), ("out", 1, 1), ("in", 1, 0), ("out", 0, 2), ("words", 1, 2), ("in", 0, 0)],
]

THINGS = [None, True, False, 0, 1, -1, "", "found", [], (), [[]], [()], ([],), [None], [0], [True], ["found"],
          [[], []], [[None]], [[0]], [[[]]], [[()]], [["found", 2]], [[("found",)]], [[("found", 2, 2, 2)]],
          [[(2, "found")]], [[("found", None)]], [[("found", [2])]], [[("found", ("found", 2))]], "[[]]"]


def runs(seed, many, deeds):
    """Pairs of a plan and deeds."""
    chance = random.Random(seed)
    told = []
    for plan in drawn_plans(seed + 1, many, shelves=(1, 1, 2, 3), places=(1, 1, 2, 3)):
        boards = drawn_boards(chance, plan)
        told.append((plan, drawn_deeds(chance, plan[0], boards, deeds)))
    return told


def deep():
    """A thing eight deep."""
    thing = 5
    for depth in range(8):
        thing = [thing]
    return thing


def all_runs(plan, deeds):
    """All runs that can be told of these deeds, each once, whichever boards of full shelves go."""
    found = {}
    paths = [[]]
    while paths:
        path = paths.pop()
        taken = []

        def choose(mates):
            at = len(taken)
            taken.append(len(mates))
            return mates[path[at] if at < len(path) else 0]

        hand = HandStairs(plan, choose)
        told = [do_deed(hand, deed) for deed in deeds]
        found[repr(told)] = told
        for at in range(len(path), len(taken)):
            paths += [path + [0] * (at - len(path)) + [other] for other in range(1, taken[at])]
    return found


class ToldRun(unittest.TestCase):
    def test_by_hand(self):
        self.assertEqual(told_run(PLAN, DEEDS), TOLD)
        self.assertEqual(told_run(PLAN, []), [])

    def test_against_new_stairs_deed_by_deed(self):
        for plan, deeds in runs(71, 48, 60) + runs(73, 6, 400):
            stairs = Stairs(plan)
            if told_run(plan, deeds) != [do_deed(stairs, deed) for deed in deeds]:
                self.fail(f"{plan}, {deeds}")

    def test_a_beginning_of_the_deeds_tells_the_beginning(self):
        for plan, deeds in runs(75, 12, 30):
            told = told_run(plan, deeds)
            for many in [0, 1, 7, 29]:
                self.assertEqual(told_run(plan, deeds[:many]), told[:many])

    def test_kinds_of_what_is_told(self):
        told = told_run(PLAN, DEEDS)
        self.assertIs(type(told), list)
        for events in told:
            self.assertIs(type(events), list)
            for event in events:
                self.assertIs(type(event), tuple)
                self.assertEqual([type(thing) for thing in event], [str, int, int][:len(event)])


class ShowsRun(unittest.TestCase):
    def check(self, plan, deeds, told, asked):
        before = repr((deeds, told))
        shown = shows_run(plan, deeds, told)
        if shown is not asked:
            self.fail(f"{shown}: {plan}, {deeds}, {told}")
        if repr((deeds, told)) != before:
            self.fail(f"changed: {before}")

    def test_by_hand(self):
        self.check(PLAN, DEEDS, TOLD, True)
        self.check(PLAN, [], [], True)
        self.check(PLAN, [], [[]], False)
        self.check(PLAN, DEEDS, [], False)

    def test_what_told_run_tells(self):
        for plan, deeds in runs(77, 72, 50) + runs(79, 6, 400):
            self.check(plan, deeds, told_run(plan, deeds), True)

    def test_what_told_run_tells_by_any_rules(self):
        chance = random.Random(81)
        for plan, deeds in runs(82, 96, 50):
            size, kind, rooms = plan
            other = tuple(room[:2] + (chance.choice(RULES),) + room[3:] for room in rooms)
            self.check(plan, deeds, told_run((size, kind, other), deeds), True)

    def test_any_board_of_a_full_shelf_may_go(self):
        chance = random.Random(84)
        for plan, deeds in runs(85, 240, 40) + runs(87, 6, 400):
            hand = HandStairs(plan, chance.choice)
            self.check(plan, deeds, [do_deed(hand, deed) for deed in deeds], True)

    def test_each_board_of_a_full_shelf_by_hand(self):
        plan = (1, "free", ((1, 3, "old", "late"),))
        deeds = [("read", 0), ("write", 1, 5), ("read", 2), ("read", 3), ("read", 0)]
        begun = [[("found", 1), ("in", 0, 0)], [("found", 1), ("in", 0, 1)], [("found", 1), ("in", 0, 2)]]
        there, gone = [[("found", 0)]], [[("found", 1), ("out", 0, 3), ("in", 0, 0)]]
        self.check(plan, deeds, begun + [[("found", 1), ("out", 0, 0), ("in", 0, 3)]] + gone, True)
        self.check(plan, deeds, begun + [[("found", 1), ("out", 0, 1), ("words", 1, 1), ("in", 0, 3)]] + there, True)
        self.check(plan, deeds, begun + [[("found", 1), ("out", 0, 2), ("in", 0, 3)]] + there, True)
        # What is found later must go with what went.
        self.check(plan, deeds, begun + [[("found", 1), ("out", 0, 0), ("in", 0, 3)]] + there, False)
        self.check(plan, deeds, begun + [[("found", 1), ("out", 0, 2), ("in", 0, 3)]] + gone, False)
        # Words go on where the board was changed, and there alone.
        self.check(plan, deeds, begun + [[("found", 1), ("out", 0, 1), ("in", 0, 3)]] + there, False)
        self.check(plan, deeds, begun + [[("found", 1), ("out", 0, 2), ("words", 1, 2), ("in", 0, 3)]] + there, False)
        # The one that comes, and one that isn't there, can't go; one must.
        self.check(plan, deeds, begun + [[("found", 1), ("out", 0, 3), ("in", 0, 3)]] + there, False)
        self.check(plan, deeds, begun + [[("found", 1), ("out", 0, 4), ("in", 0, 3)]] + there, False)
        self.check(plan, deeds, begun + [[("found", 1), ("in", 0, 3)]] + there, False)

    def test_a_board_of_another_shelf_can_not_go(self):
        plan = (1, "free", ((2, 1, "old", "late"),))
        deeds = [("read", 0), ("read", 1), ("read", 2)]
        begun = [[("found", 1), ("in", 0, 0)], [("found", 1), ("in", 0, 1)]]
        self.check(plan, deeds, begun + [[("found", 1), ("out", 0, 0), ("in", 0, 2)]], True)
        self.check(plan, deeds, begun + [[("found", 1), ("out", 0, 1), ("in", 0, 2)]], False)

    def test_nothing_goes_from_a_shelf_that_is_not_full(self):
        plan = (1, "apart", ((1, 2, "old", "late"), (1, 1, "old", "late")))
        deeds = [("read", 0), ("read", 1)]
        self.check(plan, deeds, [[("found", 2), ("in", 0, 0)], [("found", 2), ("in", 0, 1)]], True)
        self.check(plan, deeds, [[("found", 2), ("in", 0, 0)],
                                 [("found", 2), ("out", 0, 0), ("in", 0, 1), ("in", 1, 0)]], False)

    def test_of_mixed_runs_those_alone_that_can_be_told(self):
        chance = random.Random(88)
        for kind in KINDS:
            for rooms in [((1, 2, "old", "late"),), ((1, 1, "old", "late"), (1, 2, "few", "through")),
                          ((1, 2, "come", "late"), (1, 2, "old", "late")),
                          ((2, 1, "old", "late"), (1, 3, "old", "late"), (1, 2, "old", "late"))]:
                plan = (1, kind, rooms)
                deeds = drawn_deeds(chance, 1, range(5), 9)
                found = all_runs(plan, deeds)
                told = [found[words] for words in sorted(found)]
                for run in told[:200]:
                    self.check(plan, deeds, run, True)
                for again in range(200):
                    first, second = chance.choice(told), chance.choice(told)
                    at = chance.randrange(9)
                    mixed = first[:at] + second[at:]
                    self.check(plan, deeds, mixed, repr(mixed) in found)

    def test_the_other_kinds_are_otherwise(self):
        rooms = ((1, 1, "old", "late"), (1, 2, "old", "late"))
        deeds = [("write", 0, 1), ("write", 1, 2), ("write", 2, 3)]
        told = {kind: told_run((1, kind, rooms), deeds) for kind in KINDS}
        self.check((1, "apart", rooms), deeds, told["within"], False)
        self.check((1, "within", rooms), deeds, told["apart"], False)


class Otherwise(unittest.TestCase):
    """Runs with one thing otherwise."""

    def cases(self):
        return [(PLAN, DEEDS, TOLD)] + [(plan, deeds, told_run(plan, deeds)) for plan, deeds in runs(91, 36, 12)]

    def check_false(self, plan, deeds, told):
        shown = shows_run(plan, deeds, told)
        if shown is not False:
            self.fail(f"{shown}: {plan}, {deeds}, {told}")

    def each_event(self, change):
        """Every event given another form, by change(event), one at a time."""
        for plan, deeds, told in self.cases():
            for at, events in enumerate(told):
                for k, event in enumerate(events):
                    for other in change(event):
                        spoiled = [list(part) for part in told]
                        spoiled[at][k:k + 1] = other
                        self.check_false(plan, deeds, spoiled)

    def test_an_event_left_out(self):
        self.each_event(lambda event: [[]])

    def test_an_event_twice(self):
        self.each_event(lambda event: [[event, event]])

    def test_an_event_too_many(self):
        self.each_event(lambda event: [[event, ("words", 0, 1)], [("found", 0), event], [event, None], [event, ()]])

    def test_another_stair(self):
        self.each_event(lambda event: [[event[:1] + (k,) + event[2:]] for k in range(-1, 6) if k != event[1]])

    def test_another_name(self):
        names = ["found", "out", "in", "words", "put", "", "Found"]
        self.each_event(lambda event: [[(name,) + event[1:]] for name in names if name != event[0]])

    def test_another_board(self):
        def spoiled(event):
            # Another board of the shelf may well go, but one that isn't there can't.
            boards = [-1, 9999, 123456] if event[0] == "out" else [-1, 9999, event[-1] + 1, event[-1] - 1]
            return [[event[:2] + (board,)] for board in boards] if len(event) == 3 else []

        self.each_event(spoiled)

    def test_a_number_that_is_true_or_false(self):
        def spoiled(event):
            truths = [thing == 1 if thing in (0, 1) else thing for thing in event]
            others = [event[:at] + (truths[at],) + event[at + 1:] for at in range(1, len(event))]
            return [[other] for other in others + [event[:1] + (True,) + event[2:]] if repr(other) != repr(event)]

        self.each_event(spoiled)

    def test_a_text_or_a_list_for_a_number(self):
        self.each_event(lambda event: [[event[:1] + (thing,) + event[2:]]
                                       for thing in [str(event[1]), [event[1]], (event[1],), None, ""]])

    def test_another_thing_for_a_name(self):
        self.each_event(lambda event: [[(thing,) + event[1:]] for thing in [None, 0, True, [event[0]], (event[0],)]])

    def test_a_list_for_a_tuple(self):
        self.each_event(lambda event: [[list(event)], [[event]], [(event,)], [str(event)]])

    def test_too_few_or_too_many_in_an_event(self):
        self.each_event(lambda event: [[event[:-1]], [event + (0,)], [event + (None,)], [()], [event[:1]]])

    def test_events_exchanged(self):
        for plan, deeds, told in self.cases():
            for at, events in enumerate(told):
                for k in range(len(events) - 1):
                    spoiled = [list(part) for part in told]
                    spoiled[at][k], spoiled[at][k + 1] = events[k + 1], events[k]
                    self.check_false(plan, deeds, spoiled)

    def test_a_tuple_for_a_list(self):
        for plan, deeds, told in self.cases():
            self.check_false(plan, deeds, tuple(told))
            for at in range(len(told)):
                self.check_false(plan, deeds, told[:at] + [tuple(told[at])] + told[at + 1:])

    def test_lists_too_few_or_too_many(self):
        for plan, deeds, told in self.cases():
            self.check_false(plan, deeds, told[:-1])
            self.check_false(plan, deeds, told[1:])
            self.check_false(plan, deeds, told + told[-1:])
            self.check_false(plan, deeds, told + [[]])
            self.check_false(plan, deeds, [[]] + told)
            self.check_false(plan, deeds, [told])
            self.check_false(plan, deeds, [event for events in told for event in events])

    def test_another_thing_for_a_list(self):
        for plan, deeds, told in self.cases():
            for at in range(len(told)):
                for thing in [None, 0, True, "", "found", [], (), [[]], [None], told[at][0], [told[at]], deep()]:
                    self.check_false(plan, deeds, told[:at] + [thing] + told[at + 1:])

    def test_other_things_altogether(self):
        for thing in THINGS + [deep(), [deep()] * 4, [0] * 10000, [[("out", 0, 0)] * 9996] * 4, [[None] * 2499] * 4]:
            self.check_false(PLAN, DEEDS, thing)

    def test_other_things_of_no_deeds(self):
        for thing in THINGS:
            asked = isinstance(thing, list) and thing == []
            self.assertIs(shows_run(PLAN, [], thing), asked)


class Tally(unittest.TestCase):
    def test_by_hand(self):
        self.assertEqual(tally(PLAN, TOLD), ([0, 0, 4], [4, 4], [3, 2], [0, 2, 1]))
        self.assertEqual(tally(PLAN, []), ([0, 0, 0], [0, 0], [0, 0], [0, 0, 0]))
        self.assertEqual(tally(PLAN, [[("found", 0)], [("found", 0)]]), ([2, 0, 0], [0, 0], [0, 0], [0, 0, 0]))

    def test_against_a_count_by_hand(self):
        for plan, deeds in runs(94, 48, 60) + runs(96, 6, 400):
            told = told_run(plan, deeds)
            before = copy.deepcopy(told)
            n = len(plan[2])
            flat = [event[:2] for events in told for event in events]
            asked = tuple([flat.count((name, k)) for k in range(many)]
                          for name, many in [("found", n + 1), ("in", n), ("out", n), ("words", n + 1)])
            self.assertEqual(tally(plan, told), asked)
            self.assertEqual(told, before)
            self.assertEqual(sum(asked[0]), len(deeds))

    def test_kinds_of_what_is_told(self):
        told = tally(PLAN, TOLD)
        self.assertIs(type(told), tuple)
        for counts in told:
            self.assertIs(type(counts), list)
            self.assertEqual({type(count) for count in counts}, {int})


class Over(unittest.TestCase):
    def test_deeds_stay_as_they_were(self):
        for plan, deeds in runs(97, 24, 40):
            before = copy.deepcopy(deeds)
            told = told_run(plan, deeds)
            shows_run(plan, deeds, told)
            self.assertEqual(deeds, before)

    def test_told_lists_are_the_asker_s_own(self):
        for ask in [lambda: told_run(PLAN, DEEDS), lambda: tally(PLAN, TOLD), lambda: tally(PLAN, [])]:
            first, second = ask(), ask()
            lists = all_lists(first) + all_lists(second) + all_lists(TOLD)
            self.assertEqual(len({id(things) for things in lists}), len(lists))
            for things in all_lists(first):
                things.clear()
            self.assertEqual(ask(), second)

    def test_what_was_told_may_be_handed_in_again(self):
        told = told_run(PLAN, DEEDS)
        for again in range(3):
            self.assertIs(shows_run(PLAN, DEEDS, told), True)
            self.assertEqual(tally(PLAN, told), tally(PLAN, TOLD))
        told[1].pop()
        self.assertIs(shows_run(PLAN, DEEDS, told), False)
        self.assertEqual(told_run(PLAN, DEEDS), TOLD)


if __name__ == "__main__":
    unittest.main()
