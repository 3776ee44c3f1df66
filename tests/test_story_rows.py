"""Point 25: the rows of a story."""

import unittest

from farbooks.errors import BadRow
from farbooks.story import read_story

PLAN = "group north ada bea\nspan north - -\n"
GREATEST = 999999999


def happenings_of(*rows):
    return read_story(PLAN + "\n".join(rows))[1]


def plan_of(*rows):
    return read_story("\n".join(rows))[0]


class Rows(unittest.TestCase):

    def right(self, row, happening):
        told = happenings_of(row)
        self.assertEqual(told, [happening])
        self.assertIsInstance(told[0], tuple)

    def wrong(self, *rows):
        for row in rows:
            with self.assertRaises(BadRow, msg=row) as caught:
                read_story(PLAN + "\n" + row + "\nhand 0")
            self.assertEqual(caught.exception.place, 4, row)


class Happenings(Rows):

    def test_letters(self):
        for kind in ("hand", "copy", "lose"):
            for number in (0, 1, 9, 10, 1000, GREATEST):
                self.right(f"{kind} {number}", (kind, number))
            self.wrong(kind, f"{kind} 1 2", f"{kind} a", f"{kind} -1", f"{kind} -", f"{kind} {GREATEST + 1}")

    def test_wake(self):
        self.right("wake ada north", ("wake", "ada", "north"))
        self.right("wake nobody nowhere", ("wake", "nobody", "nowhere"))
        self.wrong("wake", "wake ada", "wake ada north ada", "wake ada 5", "wake 5 north", "wake - north", "wake ada -")

    def test_fall_and_rise(self):
        for kind in ("fall", "rise"):
            self.right(f"{kind} ada", (kind, "ada"))
            self.right(f"{kind} nobody", (kind, "nobody"))
            self.wrong(kind, f"{kind} ada bea", f"{kind} 1", f"{kind} -")

    def test_time(self):
        for number in (0, 1, 999, 1000):
            self.right(f"time {number}", ("time", number))
        self.wrong("time", "time 1001", "time 1 1", "time -1", "time ada", f"time {GREATEST}")

    def test_deal(self):
        self.right("deal ada pay b put 5", ("deal", "ada", "pay", (("b", "put", 5),)))
        self.right(
            "deal ada pay b put 5 c add -2 cc least 0", ("deal", "ada", "pay", (("b", "put", 5), ("c", "add", -2), ("cc", "least", 0))),
        )
        self.wrong(
            "deal", "deal ada", "deal ada pay", "deal ada pay b", "deal ada pay b put", "deal ada pay b put 5 c",
            "deal ada pay b put 5 c add", "deal ada b put 5", "deal ada pay b set 5", "deal ada pay b Put 5",
            "deal ada pay b put c", "deal ada pay 5 put b", "deal ada pay - put 5", "deal - pay b put 5",
            "deal ada - b put 5", "deal ada pay B put 5", "deal ada pay b put 5 5", "deal ada pay b put - ",
        )

    def test_the_numbers_of_ops(self):
        for number in (0, 1, -1, GREATEST, -GREATEST, -10):
            self.right(f"deal ada pay b add {number}", ("deal", "ada", "pay", (("b", "add", number),)))
        self.wrong(*[
            "deal ada pay b add " + number
            for number in (str(GREATEST + 1), str(-GREATEST - 1), "-0", "--1", "-01", "01", "00", "+1", "1-", "-", "1.0", "-a")
        ])

    def test_eight_ops_and_nine(self):
        ops = tuple((key, "add", 1) for key in "abcdefgh")
        row = "deal ada pay " + " ".join(f"{key} add 1" for key in "abcdefgh")
        self.right(row, ("deal", "ada", "pay", ops))
        self.wrong(row + " i add 1")

    def test_keys_that_rise_and_that_dont(self):
        for keys in (("a", "b"), ("a", "aa"), ("aa", "b"), ("ab", "abc", "ac")):
            row = "deal ada pay " + " ".join(f"{key} put 1" for key in keys)
            self.right(row, ("deal", "ada", "pay", tuple((key, "put", 1) for key in keys)))
            self.wrong("deal ada pay " + " ".join(f"{key} put 1" for key in reversed(keys)))
        self.wrong("deal ada pay b put 1 b add 1", "deal ada pay a put 1 c put 1 b put 1", "deal ada pay a put 1 c put 1 c put 1")

    def test_cut_and_join(self):
        for kind in ("cut", "join"):
            self.right(f"{kind} ada m", (kind, "ada", "m"))
            self.wrong(kind, f"{kind} ada", f"{kind} ada -", f"{kind} - m", f"{kind} ada m m", f"{kind} ada 5")

    def test_move(self):
        self.right("move ada trip m north", ("move", "ada", "trip", "m", "north"))
        self.right("move ada trip - north", ("move", "ada", "trip", "", "north"))
        self.wrong(
            "move", "move ada trip m", "move ada trip north", "move ada trip m north ada", "move - trip m north",
            "move ada - m north", "move ada trip m -", "move ada trip -- north", "move ada trip 5 north",
        )

    def test_seat_and_leave(self):
        for kind in ("seat", "leave"):
            self.right(f"{kind} ada north bea", (kind, "ada", "north", "bea"))
            self.right(f"{kind} nobody nowhere noone", (kind, "nobody", "nowhere", "noone"))
            self.wrong(kind, f"{kind} ada north", f"{kind} ada north bea cid", f"{kind} ada north -", f"{kind} - north bea",
                       f"{kind} ada - bea")

    def test_read(self):
        for moment in (0, 5, GREATEST):
            self.right(f"read ada {moment} b", ("read", "ada", moment, "b"))
        self.wrong("read", "read ada 5", "read ada b 5", "read ada -5 b", "read ada 5 -", f"read ada {GREATEST + 1} b", "read - 5 b",
                   "read ada 5 b b", "read ada 05 b")

    def test_calm(self):
        for rounds in (1, 2, 59, 60):
            self.right(f"calm {rounds}", ("calm", rounds))
        self.wrong("calm", "calm 0", "calm 61", "calm 1 1", "calm ada", "calm -1")

    def test_no_other_rows(self):
        self.wrong("ada", "5", "-", "Hand 0", "HAND 0", "hands 0", "hand0", "hand,0", "note ada", "mark 5", "# hand 0", "begun 5")

    def test_numbers(self):
        for word, number in (("0", 0), ("7", 7), ("10", 10), ("123456789", 123456789)):
            self.right(f"hand {word}", ("hand", number))
        self.wrong(*["hand " + word for word in (
            "00", "01", "007", "-0", "-1", "+1", "1_0", "1,0", "1.", "0x1", "1e3", "1234567890", "0000000001", "\u0663", "\u00b2", "one",
        )])

    def test_names(self):
        for name in ("a", "z", "abcdefgh", "zzzzzzzz"):
            self.right(f"fall {name}", ("fall", name))
            self.right(f"cut ada {name}", ("cut", "ada", name))
        self.wrong(*["fall " + name for name in (
            "abcdefghi", "A", "aB", "a1", "1a", "a-b", "a_b", "a.b", "\u00e4", "a\u00df", "{a}", "`a", "a'", "a~",
        )])
        self.wrong(*["cut ada " + name for name in ("abcdefghi", "A", "a1", "-a", "\u00e9")])

    def test_the_order_of_rows(self):
        self.assertEqual(happenings_of("hand 3", "fall ada", "hand 3", "calm 2", "time 0"), [
            ("hand", 3), ("fall", "ada"), ("hand", 3), ("calm", 2), ("time", 0),
        ])


class Blanks(Rows):

    def test_blanks_between_ahead_and_behind(self):
        for row in ("wake ada north", " wake ada north", "wake ada north ", "   wake   ada  north    ", "wake  ada north"):
            self.right(row, ("wake", "ada", "north"))
        self.right("  deal ada  pay  b   put 5 ", ("deal", "ada", "pay", (("b", "put", 5),)))
        self.assertEqual(
            plan_of("  group   north  ada   bea ", " span  north  -   - ", "  slack ada   1  2", "  rest   300  "),
            ([("north", ("ada", "bea"), [("", "")])], [("ada", 1, 2), ("bea", 0, 0)], 300),
        )

    def test_rows_without_a_word_are_passed_over(self):
        self.assertEqual(happenings_of("", "hand 1", "", "   ", " ", "hand 2", "", " "), [("hand", 1), ("hand", 2)])
        self.assertEqual(plan_of("", " ", "group north ada", "", "span north - -")[0], [("north", ("ada",), [("", "")])])

    def test_nothing_else_parts_words_or_rows(self):
        for sign in ("\t", "\r", "\f", "\v", "\u00a0", "\u2028", "\x1c", "\x85", "\x00"):
            self.wrong("hand" + sign + "0", sign, "hand 0" + sign, sign + "hand 0", "hand 0" + sign + "hand 0")
        self.wrong("%", "hand 0 %", "hand %0")

    def test_a_row_of_400_signs(self):
        row = "hand" + " " * 395 + "7"
        self.assertEqual(len(row), 400)
        self.right(row, ("hand", 7))
        self.right("fall ada".ljust(400), ("fall", "ada"))
        self.right("fall ada".rjust(400), ("fall", "ada"))
        self.assertEqual(happenings_of(" " * 400), [])

    def test_a_text_of_2000_rows(self):
        rows = ["group north ada bea", "span north - -"] + [f"hand {number}" for number in range(1998)]
        plan, happenings = read_story("\n".join(rows))
        self.assertEqual(happenings, [("hand", number) for number in range(1998)])
        with self.assertRaises(BadRow) as caught:
            read_story("\n".join(rows[:-1] + ["hand"]))
        self.assertEqual(caught.exception.place, 2000)

    def test_somewhat_beyond_is_no_error(self):
        self.right("hand" + " " * 500 + "7", ("hand", 7))
        self.assertEqual(len(happenings_of(*["hand 1"] * 2100)), 2100)

    def test_many_spans(self):
        keys = [one + other + last for one in "abcdefghijklmnopqrstuvwxyz" for other in "abcdefghijklmnopqrstuvwxyz" for last in "bm"]
        ends = ["-", *keys, "-"]
        rows = [f"span north {low} {high}" for low, high in zip(ends, ends[1:])]
        self.assertEqual(len(rows), 1353)
        spans = plan_of("group north ada", *reversed(rows))[0][0][2]
        self.assertEqual((len(spans), spans[:2], spans[-1]), (1353, [("", "aab"), ("aab", "aam")], ("zzm", "")))


class PlanRows(Rows):

    def test_group(self):
        for houses in (("ada",), ("ada", "bea"), ("a", "aa", "ab", "b", "zzzzzzzz")):
            plan = plan_of("group north " + " ".join(houses), "span north - -")
            self.assertEqual(plan[0], [("north", houses, [("", "")])])
            self.assertEqual(plan[1], [(house, 0, 0) for house in houses])
        self.wrong("group", "group south", "group south ada bea cid dot eve fay", "group south bea ada", "group south ada ada",
                   "group south ada bea bea", "group south -", "group - ada", "group south ada 5", "group South ada",
                   "group south Ada", "group abcdefghi ada", "group south abcdefghi")

    def test_span(self):
        plan = plan_of("group north ada", "span north m -", "span north - b", "span north b m")
        self.assertEqual(plan[0], [("north", ("ada",), [("", "b"), ("b", "m"), ("m", "")])])
        self.wrong("span", "span north", "span north b", "span north b c d", "span - b c", "span north 1 b", "span north b 1",
                   "span north b --", "span north b abcdefghi", "span north B c")

    def test_a_span_without_a_key(self):
        self.wrong("span north b b", "span north c b", "span north - a", "span north a a", "span north ba b", "span north b a")
        for low, high in (("a", "aa"), ("b", "ba"), ("azzzzzzz", "b"), ("aaaaaaaa", "aaaaaaab"), ("y", "z")):
            plan = plan_of("group north ada", f"span north - {low}" if low != "a" else "", f"span north {low} {high}",
                           f"span north {high} -")
            self.assertIn((low, high), plan[0][0][2])
        self.assertEqual(plan_of("group north ada", "span north - aa", "span north aa -")[0][0][2], [("", "aa"), ("aa", "")])
        self.assertEqual(plan_of("group north ada", "span north a -")[0][0][2], [("a", "")])

    def test_slack(self):
        for under, over in ((0, 0), (100, 100), (7, 30), (0, 100)):
            self.assertEqual(plan_of("group north ada", "span north - -", f"slack ada {under} {over}")[1], [("ada", under, over)])
        self.wrong("slack", "slack ada", "slack ada 1", "slack ada 1 2 3", "slack ada 101 0", "slack ada 0 101", "slack ada -1 0",
                   "slack ada 0 -1", "slack ada a 0", "slack - 0 0", "slack 0 0 ada", "slack ada 00 0", "slack ada 0 01")

    def test_rest(self):
        for rest in (200, 201, GREATEST):
            self.assertEqual(plan_of("rest " + str(rest), "group north ada", "span north - -")[2], rest)
        self.assertEqual(plan_of("group north ada", "span north - -")[2], 200)
        self.wrong("rest", "rest 199", "rest 0", f"rest {GREATEST + 1}", "rest 0200", "rest -200", "rest ada", "rest 200 200")


if __name__ == "__main__":
    unittest.main()
