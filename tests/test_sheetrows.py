"""Point [19]: sheets, and the row that is refused; with point [2] over them."""

import random
import unittest

from nearstairs.errors import BadRow
from nearstairs.plans import is_plan
from nearstairs.sheetrows import read_sheet

from by_hand import KINDS, RULES, WRITINGS

HEAD = ["size 4", "kind within", "room 2 1 old late"]
PLAN = (4, "within", ((2, 1, "old", "late"),))

# Each order's row, and the tuple it is read as, at the bounds of its numbers.
ORDERS = [
    ("read 0", ("read", 0)), ("read 9", ("read", 9)), ("read 10", ("read", 10)), ("read 9999", ("read", 9999)),
    ("write 0 0", ("write", 0, 0)), ("write 9999 1", ("write", 9999, 1)), ("write 5 -2", ("write", 5, -2)),
    ("write 5 999999999", ("write", 5, 999999999)), ("write 5 -999999999", ("write", 5, -999999999)),
    ("write 7 100000000", ("write", 7, 100000000)), ("write 7 -10", ("write", 7, -10)),
    ("empty", ("empty",)), ("lies 0", ("lies", 0)), ("lies 4", ("lies", 4)), ("changed 0", ("changed", 0)),
    ("changed 4", ("changed", 4)), ("order 0 0", ("order", 0, 0)), ("order 4 63", ("order", 4, 63)),
    ("words 0 0", ("words", 0, 0)), ("words 4 9999", ("words", 4, 9999)), ("memory", ("memory",)),
    ("tally", ("tally",)),
]

BAD_NUMBERS = ["", "-", "+", "-0", "00", "01", "-1", "+1", "1.0", "1e3", "0x1", "1_0", "one", "a", "1a", "a1", "--1",
               "1-", "- 1", "1,0", "1234567890", "0000000001", "1" * 12, "1\t", "\t1", "1\r", "\u0661", "\u00b2",
               "\uff11", "\u0967\u0968", "~", "!", "True", "None"]

BAD_WORDS = ["", "-", "+", "-0", "00", "01", "-01", "-00", "+1", "--1", "1-", "1.0", "-1.0", "1e3", "0x1", "1_0", "a",
             "-a", "1234567890", "-1234567890", "0123456789", "\u0661", "-\u0661", "\u2212" + "1", "1\t", "1\r"]

BAD_ROWS = [
    " ", "  ", "\t", "\r", "%", "~", "#", "-", "0", "5", "Read 5", "READ 5", "read", "read ", " read 5", "read 5 ",
    "read  5", "read\t5", "read 5\r", "read 5 6", "read 5 x", "read -5", "read 10000", "read 99999", "read 5%",
    "read,5",
    "reads 5", "rea 5", "write", "write 5", "write 5 ", "write  5 6", "write 5  6", "write 5 6 ", "write 5 6 7",
    "write -5 6", "write 10000 6", "write 5 -", "empty 0", "empty ", " empty", "emptied", "empties", "lies", "lies 5",
    "lies 9", "lies -1", "lies 0 0", "changed", "changed 5", "changed -1", "changed 0 0", "order", "order 0",
    "order 5 0", "order 0 64", "order 0 -1", "order -1 0", "order 0 0 0", "order 0  0", "words", "words 0", "words 5 0",
    "words 0 10000", "words 0 -1", "words 0 0 0", "memory 0", "memory ", "memory memory", "tally 0", "tally tally",
    "Tally", "found 0", "in 0 0", "out 0 0", "x" * 60, "~" * 60, " " * 60, "read 5" + " " * 54, "0" * 60,
    "read " + "0" * 55, "read 5\x00", "\x7f", "r\u00e9ad 5", "read\u00a05", "read 5\x0b", "read 5\x0c", "\x85",
    "\u2028", "read 5\u2028", "size", "kind", "room", "stair 0", "board 5", "spot 5",
]


def sheet(*rows):
    return "\n".join(rows)


class Sheets(unittest.TestCase):
    def check_bad(self, text, row):
        with self.assertRaises(BadRow) as caught:
            read_sheet(text)
        self.assertIs(type(caught.exception), BadRow, repr(text))
        self.assertIs(type(caught.exception.row), int)
        self.assertEqual(caught.exception.row, row, repr(text))


class Reading(Sheets):
    def test_a_plan_alone(self):
        self.assertEqual(read_sheet(sheet(*HEAD)), (PLAN, []))

    def test_one_to_four_rooms(self):
        rows = ["room 1 1 old late", "room 64 16 come through", "room 2 3 few late", "room 9 10 old through"]
        rooms = ((1, 1, "old", "late"), (64, 16, "come", "through"), (2, 3, "few", "late"), (9, 10, "old", "through"))
        for many in [1, 2, 3, 4]:
            with self.subTest(many=many):
                plan = (16, "free", rooms[:many])
                self.assertEqual(read_sheet(sheet("size 16", "kind free", *rows[:many])), (plan, []))
                self.assertEqual(read_sheet(sheet("size 16", "kind free", *rows[:many], "tally")),
                                 (plan, [("tally",)]))
                self.assertTrue(is_plan(plan))

    def test_every_plan_s_words(self):
        for kind in KINDS:
            for rule in RULES:
                for writing in WRITINGS:
                    with self.subTest(kind=kind, rule=rule, writing=writing):
                        told = read_sheet(f"size 1\nkind {kind}\nroom 64 16 {rule} {writing}")
                        self.assertEqual(told, ((1, kind, ((64, 16, rule, writing),)), []))

    def test_every_size_shelves_and_places(self):
        for size in range(1, 17):
            for shelves, places in [(size * 4, 17 - size), (1, size), (64, size)]:
                told = read_sheet(f"size {size}\nkind apart\nroom {shelves} {places} few late")
                self.assertEqual(told, ((size, "apart", ((shelves, places, "few", "late"),)), []))

    def test_each_order(self):
        for row, order in ORDERS:
            with self.subTest(row=row):
                self.assertEqual(read_sheet(sheet(*HEAD, row)), (PLAN, [order]))
        self.assertEqual(read_sheet(sheet(*HEAD, *[row for row, order in ORDERS])),
                         (PLAN, [order for row, order in ORDERS]))

    def test_empty_rows_anywhere(self):
        rows = HEAD + ["read 5", "memory", "tally"]
        told = (PLAN, [("read", 5), ("memory",), ("tally",)])
        for at in range(len(rows) + 1):
            for many in [1, 2, 5]:
                with self.subTest(at=at, many=many):
                    self.assertEqual(read_sheet(sheet(*rows[:at], *[""] * many, *rows[at:])), told)
        self.assertEqual(read_sheet("\n\n" + "\n\n\n".join(rows) + "\n\n"), told)

    def test_three_hundred_rows(self):
        rows = HEAD + ["write 9999 -999999999"] * 297
        self.assertEqual(read_sheet(sheet(*rows)), (PLAN, [("write", 9999, -999999999)] * 297))
        self.assertEqual(read_sheet(sheet(*HEAD, *[""] * 297)), (PLAN, []))
        self.assertEqual(read_sheet(sheet(*[""] * 297, *HEAD)), (PLAN, []))

    def test_kinds_of_what_is_told(self):
        told = read_sheet(sheet(*HEAD, "read 0", "write 1 1", "lies 1"))
        self.assertEqual((type(told), len(told), type(told[0]), type(told[1])), (tuple, 2, tuple, list))
        self.assertTrue(is_plan(told[0]))
        for order in told[1]:
            self.assertIs(type(order), tuple)
            self.assertEqual([type(thing) for thing in order], [str] + [int] * (len(order) - 1))

    def test_what_is_told_is_the_asker_s_own(self):
        text = sheet(*HEAD, "read 0", "memory")
        first, second = read_sheet(text), read_sheet(text)
        self.assertEqual(first, second)
        self.assertIsNot(first[1], second[1])
        first[1].clear()
        self.assertEqual(read_sheet(text), second)


class BadlyWritten(Sheets):
    def test_orders(self):
        for row in BAD_ROWS:
            with self.subTest(row=row):
                self.check_bad(sheet(*HEAD, row), 3)
                self.check_bad(sheet(*HEAD, "read 5", "", row, "read 6"), 5)
                self.check_bad(sheet(row, *HEAD), 0)
                self.check_bad(sheet(HEAD[0], row, *HEAD[1:]), 1)

    def test_numbers(self):
        forms = ["read {}", "write {} 5", "lies {}", "changed {}", "order {} 0", "order 0 {}", "words {} 0",
                 "words 0 {}"]
        for number in BAD_NUMBERS:
            for form in forms:
                with self.subTest(number=number, form=form):
                    self.check_bad(sheet(*HEAD, form.format(number)), 3)
            with self.subTest(number=number):
                self.check_bad(sheet(f"size {number}", *HEAD[1:]), 0)
                self.check_bad(sheet(*HEAD[:2], f"room {number} 1 old late"), 2)
                self.check_bad(sheet(*HEAD[:2], f"room 1 {number} old late"), 2)

    def test_words_that_are_written(self):
        for word in BAD_WORDS:
            with self.subTest(word=word):
                self.check_bad(sheet(*HEAD, f"write 5 {word}"), 3)

    def test_bounds(self):
        rows = ["read 10000", "read 999999999", "write 10000 1", "lies 5", "changed 5", "order 5 0", "order 0 64",
                "words 5 0", "words 0 10000", "lies 999999999", "order 0 999999999"]
        for row in rows:
            with self.subTest(row=row):
                self.check_bad(sheet(*HEAD, row), 3)
        for size in [0, 17, 99, 999999999]:
            self.check_bad(sheet(f"size {size}", *HEAD[1:]), 0)
        for room in ["room 0 1 old late", "room 65 1 old late", "room 1 0 old late", "room 1 17 old late"]:
            self.check_bad(sheet(*HEAD[:2], room), 2)
            self.check_bad(sheet(*HEAD, room), 3)

    def test_plans(self):
        for row in ["size", "size ", "size 4 4", " size 4", "size 4 ", "size  4", "Size 4", "sizes 4", "size four"]:
            with self.subTest(row=row):
                self.check_bad(sheet(row, *HEAD[1:]), 0)
        for row in ["kind", "kind ", "kind Within", "kind old", "kind late", "kind within free", "kind  free",
                    "kind 1", "kind within ", " kind within", "kind beside", "kinds free"]:
            with self.subTest(row=row):
                self.check_bad(sheet(HEAD[0], row, HEAD[2]), 1)
        for row in ["room", "room 1", "room 1 1", "room 1 1 old", "room 1 1 old late late", "room 1 1 late old",
                    "room 1 1 Old late", "room 1 1 old Late", "room 1 1 young late", "room 1 1 old soon",
                    "room 1 1 old  late", "room  1 1 old late", "room 1 1 old late ", " room 1 1 old late",
                    "room 1 1 within late", "room old late 1 1", "rooms 1 1 old late", "room 1 1 1 1"]:
            with self.subTest(row=row):
                self.check_bad(sheet(*HEAD[:2], row), 2)
                self.check_bad(sheet(*HEAD, row), 3)


class CanNotStandThere(Sheets):
    def test_out_of_order(self):
        size, kind, room = HEAD
        for rows, at in [
            ([kind, size, room], 0), ([room, size, kind], 0), ([size, room, kind], 1), ([size, size, kind, room], 1),
            ([size, kind, kind, room], 2), ([size, kind, size, room], 2), ([size, kind, room, size], 3),
            ([size, kind, room, kind], 3), ([size, kind, room, "tally", room], 4),
            ([size, kind, room, "tally", size], 4),
            ([size, kind, room, "tally", kind], 4), ([size, kind, room, room, kind], 4), ([kind], 0), ([room], 0),
        ]:
            with self.subTest(rows=rows):
                self.check_bad(sheet(*rows), at)
                self.check_bad(sheet("", *rows), at + 1)
                self.check_bad("\n\n".join(rows), 2 * at)

    def test_orders_ahead_of_the_rooms(self):
        for row, order in ORDERS:
            with self.subTest(row=row):
                self.check_bad(sheet(row, *HEAD), 0)
                self.check_bad(sheet(HEAD[0], row, *HEAD[1:]), 1)
                self.check_bad(sheet(*HEAD[:2], row, HEAD[2]), 2)
                self.check_bad(sheet(*HEAD[:2], row), 2)

    def test_a_fifth_room(self):
        rows = HEAD[:2] + [HEAD[2]] * 4
        self.assertEqual(read_sheet(sheet(*rows))[0][2], PLAN[2] * 4)
        self.check_bad(sheet(*rows, HEAD[2]), 6)
        self.check_bad(sheet(*rows, "", HEAD[2], "tally"), 7)
        self.check_bad(sheet(*rows, "tally", HEAD[2]), 7)
        self.check_bad(sheet(*rows, HEAD[2], HEAD[2]), 6)

    def test_no_row_room(self):
        self.check_bad("", 1)
        self.check_bad("\n", 2)
        self.check_bad("\n" * 299, 300)
        self.check_bad("size 4", 1)
        self.check_bad("size 4\n", 2)
        self.check_bad("size 4\nkind free", 2)
        self.check_bad("\nsize 4\n\nkind free\n\n", 6)


class TheFirstRow(Sheets):
    def test_of_several_the_first_goes(self):
        self.check_bad(sheet(*HEAD, "read x", "read y"), 3)
        self.check_bad(sheet(*HEAD, "read 5", "size 4", "read y"), 4)
        self.check_bad(sheet(*HEAD, "read 5", "read y", "size 4"), 4)
        self.check_bad(sheet("size 17", "kind x", "room"), 0)
        self.check_bad(sheet("size 4", "kind x", "room"), 1)
        self.check_bad(sheet("size 4", "tally", "room"), 1)

    def test_all_rows_are_counted(self):
        self.check_bad(sheet("", "", *HEAD, "", "read 5", "", "", "reed 5"), 9)

    def test_in_three_hundred_rows(self):
        for at in [3, 4, 150, 298, 299]:
            rows = HEAD + ["read 5"] * 297
            rows[at] = "read 5 "
            self.check_bad(sheet(*rows), at)
        self.check_bad(sheet(*HEAD, *["x" * 60] * 297), 3)

    def test_drawn_sheets(self):
        chance = random.Random(101)
        good = [row for row, order in ORDERS] + [""]
        for again in range(300):
            rows = HEAD + [chance.choice(good) for at in range(chance.randrange(30))]
            orders = dict(ORDERS)
            self.assertEqual(read_sheet(sheet(*rows)), (PLAN, [orders[row] for row in rows[3:] if row]))
            at = chance.randrange(3, len(rows) + 1)
            rows.insert(at, chance.choice(BAD_ROWS + ["size 4", "kind free"]))
            self.check_bad(sheet(*rows, *[chance.choice(good + BAD_ROWS) for more in range(3)]), at)

    def test_a_refusal_changes_nothing(self):
        text = sheet(*HEAD, "read 5")
        before = read_sheet(text)
        self.check_bad(sheet(*HEAD, "read"), 3)
        self.assertEqual(read_sheet(text), before)


if __name__ == "__main__":
    unittest.main()
