"""Point [20]: a sheet's orders, and a text for each; with points [1] and [2] over the whole program."""

import random
import unittest

from nearstairs.desk import run
from nearstairs.errors import BadRow, NoShelf, NoStair, NotThere, StairError
from nearstairs.looking import tally, told_run
from nearstairs.sheetrows import read_sheet
from nearstairs.stairs import Stairs

from by_hand import KINDS, drawn_plans

HEAD = "size 2\nkind within\nroom 1 1 old late\nroom 1 2 old late\n"


def head_of(plan):
    size, kind, rooms = plan
    return [f"size {size}", f"kind {kind}"] + ["room " + " ".join(str(part) for part in room) for room in rooms]


def drawn_order(chance):
    board = chance.choice([0, 1, 2, 3, 64, 128])
    return chance.choice([
        f"read {chance.randrange(12)}", f"read {chance.randrange(12)}", f"read {board * 3}",
        f"write {chance.randrange(12)} {chance.randrange(-99, 100)}", f"write {board * 3} -999999999",
        f"write {chance.randrange(12)} 0", f"write {chance.randrange(12)} 999999999",
        f"lies {chance.randrange(5)}", f"changed {chance.randrange(5)}",
        f"order {chance.randrange(5)} {chance.choice([0, 0, 1, 2, 63])}",
        f"words {chance.randrange(5)} {chance.choice([board, board, 9999])}", "memory", "tally", "tally",
        chance.choice(["empty", "memory", ""]),
    ])


def drawn_sheets(seed, many, orders):
    chance = random.Random(seed)
    return [(plan, [drawn_order(chance) for at in range(orders)])
            for plan in drawn_plans(seed + 1, many, shelves=(1, 2, 3), places=(1, 2, 3))]


def listed(things):
    return " ".join(map(str, things)) or "-"


def answer_by_hand(stairs, plan, deeds, row):
    """The answer to a row that isn't empty, with Stairs done beside it; deeds are those so far."""
    name, *rest = row.split(" ")
    numbers = [int(word) for word in rest]
    if name == "read":
        deeds.append(("read", numbers[0]))
        word, events = stairs.read(numbers[0])
        return f"{word} {events[0][1]}"
    if name == "write":
        deeds.append(("write", numbers[0], numbers[1]))
        return str(stairs.write(numbers[0], numbers[1])[0][1])
    if name == "empty":
        return str(sum(event[0] == "words" for event in stairs.emptied()))
    if name == "tally":
        return " / ".join(listed(counts) for counts in deeds_counted(plan, deeds))
    if name == "memory":
        return " ".join(f"{spot}:{word}" for spot, word in stairs.memory()) or "-"
    try:
        return listed(getattr(stairs, name)(*numbers))
    except StairError as refusal:
        return "refused " + type(refusal).__name__


def deeds_counted(plan, deeds):
    """A tally by hand: deeds may hold None, behind which all rooms are emptied."""
    stairs = Stairs(plan)
    flat = []
    for deed in deeds:
        if deed is None:
            stairs.emptied()
        else:
            flat += stairs.read(deed[1])[1] if deed[0] == "read" else stairs.write(deed[1], deed[2])
    n = len(plan[2])
    return [[sum(event[:2] == (name, k) for event in flat) for k in range(many)]
            for name, many in [("found", n + 1), ("in", n), ("out", n), ("words", n + 1)]]


def answers_by_hand(plan, rows):
    stairs, deeds, told = Stairs(plan), [], []
    for row in rows:
        if row:
            told.append(answer_by_hand(stairs, plan, deeds, row))
        if row == "empty":
            deeds.append(None)
    return told


class Answers(unittest.TestCase):
    def check(self, orders, answers):
        self.assertEqual(run(HEAD + "\n".join(orders)), answers)

    def test_no_orders(self):
        self.assertEqual(run(HEAD), [])
        self.assertEqual(run(HEAD.strip()), [])

    def test_read_and_write(self):
        self.check(["read 1", "write 1 7", "read 1", "read 2", "read 1", "read 0", "write 2 -5", "read 2"],
                   ["0 2", "0", "7 0", "0 2", "7 1", "0 0", "1", "-5 0"])

    def test_words_of_nine_figures(self):
        self.check(["write 0 999999999", "write 1 -999999999", "read 0", "read 1", "words 0 0"],
                   ["2", "0", "999999999 0", "-999999999 0", "999999999 -999999999"])

    def test_lies_changed_order_words(self):
        self.check(["write 1 7", "read 2", "lies 0", "lies 1", "changed 0", "changed 1", "order 1 0", "read 0",
                    "order 1 0", "words 1 0", "words 0 0", "words 2 0", "words 2 9999"],
                   ["2", "0 2", "1", "0 1", "-", "0", "0 1", "0 1", "1 0", "0 7", "0 7", "0 0", "0 0"])

    def test_memory(self):
        self.check(["memory", "write 1 7", "memory", "empty", "memory", "write 0 -3", "write 9 4", "empty", "memory",
                    "write 1 0", "empty", "memory"],
                   ["-", "2", "-", "2", "1:7", "2", "2", "3", "0:-3 1:7 9:4", "2", "2", "0:-3 9:4"])

    def test_empty(self):
        self.check(["empty", "read 0", "empty", "write 0 1", "empty", "empty", "lies 0", "lies 1"],
                   ["0", "0 2", "0", "2", "2", "0", "-", "-"])

    def test_empty_with_words_that_stay_near_the_memory(self):
        sheet = "size 1\nkind free\nroom 1 2 old through\nwrite 0 1\nwrite 1 1\nempty\nmemory"
        self.assertEqual(run(sheet), ["1", "1", "0", "0:1 1:1"])

    def test_tally(self):
        self.check(["tally", "write 1 7", "tally", "read 2", "tally", "empty", "tally", "read 2", "tally"],
                   ["0 0 0 / 0 0 / 0 0 / 0 0 0", "2", "0 0 1 / 1 1 / 0 0 / 0 0 0", "0 2",
                    "0 0 2 / 2 2 / 1 0 / 0 1 0", "1", "0 0 2 / 2 2 / 1 0 / 0 1 0", "0 2",
                    "0 0 3 / 3 3 / 1 0 / 0 1 0"])

    def test_tally_of_one_room(self):
        self.assertEqual(run("size 1\nkind apart\nroom 1 1 old late\nread 3\nread 3\ntally"),
                         ["0 1", "0 0", "1 1 / 1 / 0 / 0 0"])

    def test_nothing_would_be_written(self):
        self.check(["lies 0", "lies 1", "changed 0", "changed 1", "order 0 0", "order 1 0", "memory"], ["-"] * 7)

    def test_refused(self):
        self.check(["lies 2", "lies 3", "lies 4", "changed 2", "changed 4", "order 2 0", "order 2 63", "order 4 1",
                    "words 3 0", "words 4 9999", "order 0 1", "order 1 63", "words 0 0", "words 1 9999", "read 0",
                    "words 0 0", "words 0 1", "lies 1", "tally"],
                   ["refused NoStair"] * 10 + ["refused NoShelf"] * 2 + ["refused NotThere"] * 2 +
                   ["0 2", "0 0", "refused NotThere", "0", "0 0 1 / 1 1 / 0 0 / 0 0 0"])

    def test_four_rooms_have_stair_4_as_their_memory(self):
        sheet = "size 1\nkind free\n" + "room 1 1 old late\n" * 4
        self.assertEqual(run(sheet + "words 4 5\nlies 3\nlies 4\nread 5\nlies 3"),
                         ["0", "-", "refused NoStair", "0 4", "5"])

    def test_each_kind(self):
        rows = "write 0 5\nread 1\nread 2\nlies 0\nlies 1\nchanged 1\nmemory"
        rooms = "room 1 1 old late\nroom 1 2 old late\n"
        told = {"within": ["2", "0 2", "0 2", "2", "1 2", "-", "0:5"],
                "apart": ["2", "0 2", "0 2", "2", "0 1", "0", "-"],
                "free": ["2", "0 2", "0 2", "2", "1 2", "-", "0:5"]}
        for kind in KINDS:
            with self.subTest(kind=kind):
                self.assertEqual(run(f"size 1\nkind {kind}\n{rooms}{rows}"), told[kind])

    def test_empty_rows_have_no_answer(self):
        self.assertEqual(run("\n" + HEAD.replace("\n", "\n\n") + "\nread 0\n\n\nread 0\n"), ["0 2", "0 0"])

    def test_kinds_of_what_is_told(self):
        told = run(HEAD + "read 0\nmemory\ntally\nlies 4")
        self.assertIs(type(told), list)
        self.assertEqual({type(answer) for answer in told}, {str})


class Drawn(unittest.TestCase):
    def test_each_order_against_stairs_beside_it(self):
        for plan, rows in drawn_sheets(111, 120, 40) + drawn_sheets(113, 6, 290):
            told = run("\n".join(head_of(plan) + rows))
            if told != answers_by_hand(plan, rows):
                self.fail(f"{plan}, {rows}: {told}")

    def test_tally_is_that_of_the_reads_and_writes(self):
        for plan, rows in drawn_sheets(115, 24, 40):
            deeds = [row for row in rows if row.split(" ")[0] in ["read", "write"]]
            told = told_run(plan, read_sheet("\n".join(head_of(plan) + deeds))[1])
            text = " / ".join(listed(counts) for counts in tally(plan, told))
            self.assertEqual(run("\n".join(head_of(plan) + deeds + ["empty", "tally"]))[-1], text)

    def test_a_beginning_has_the_beginning_of_the_answers(self):
        for plan, rows in drawn_sheets(117, 24, 30):
            told = run("\n".join(head_of(plan) + rows))
            for many in range(0, 31, 3):
                begun = run("\n".join(head_of(plan) + rows[:many]))
                self.assertEqual(begun, told[:len(begun)])
                self.assertEqual(len(begun), len([row for row in rows[:many] if row]))

    def test_the_same_sheet_is_told_the_same_and_the_list_is_the_asker_s_own(self):
        for plan, rows in drawn_sheets(119, 12, 30):
            text = "\n".join(head_of(plan) + rows)
            first, second = run(text), run(text)
            self.assertEqual(first, second)
            self.assertIsNot(first, second)
            first.clear()
            self.assertEqual(run(text), second)

    def test_no_answer_is_empty_or_has_blanks_at_its_ends(self):
        for plan, rows in drawn_sheets(121, 24, 40):
            for answer in run("\n".join(head_of(plan) + rows)):
                self.assertNotEqual(answer, "")
                self.assertEqual(answer, answer.strip())
                self.assertNotIn("  ", answer)


class Refused(unittest.TestCase):
    def check_bad(self, text, row):
        with self.assertRaises(BadRow) as caught:
            run(text)
        self.assertIs(type(caught.exception), BadRow)
        self.assertEqual(caught.exception.row, row)

    def test_as_read_sheet(self):
        self.check_bad("", 1)
        self.check_bad("size 2\nkind free", 2)
        self.check_bad(HEAD + "read 0\nread 10000\nreed", 5)
        self.check_bad(HEAD + "lies 5", 4)
        self.check_bad(HEAD + "order 0 64", 4)
        self.check_bad(HEAD + "words 0 10000", 4)
        self.check_bad("size 2\nkind free\nread 0", 2)
        self.check_bad(HEAD + "tally\nroom 1 1 old late", 5)

    def test_names_are_those_of_the_classes(self):
        told = run(HEAD + "lies 4\norder 0 5\nwords 0 5")
        self.assertEqual(told, ["refused " + refusal.__name__ for refusal in [NoStair, NoShelf, NotThere]])


if __name__ == "__main__":
    unittest.main()
