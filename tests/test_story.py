"""Point 26: stories read, refused, shown and told."""

import unittest
from unittest import mock

from farbooks.errors import BadRow, Misplaced, StoryError, TooMany, Twice, Uneven
from farbooks.order import faults
from farbooks.story import read_story, shown_story, told_story
from farbooks.tale import record_of
from farbooks.world import World
from tests import plays
from tests.worlds import state_of

NORTH = ["group north ada bea", "span north - -"]


class Read(unittest.TestCase):

    def test_a_story(self):
        told = read_story(
            "group west cid dot\nrest 300\nslack zoe 3 4\ngroup east ada cid\nspan east - m\nspan west t -\n\n"
            "slack cid 1 2\nspan west m t\nwake ada east\ncalm 3\nread nobody 5 b"
        )
        groups = [("west", ("cid", "dot"), [("m", "t"), ("t", "")]), ("east", ("ada", "cid"), [("", "m")])]
        slacks = [("ada", 0, 0), ("cid", 1, 2), ("dot", 0, 0), ("zoe", 3, 4)]
        self.assertEqual(told, ((groups, slacks, 300), [("wake", "ada", "east"), ("calm", 3), ("read", "nobody", 5, "b")]))
        self.assertEqual([type(part) for part in (told, told[0], told[0][0], told[0][1], told[1])], [tuple, tuple, list, list, list])
        self.assertEqual([type(part) for part in told[0][0][0]], [str, tuple, list])

    def test_groups_in_the_order_of_their_rows(self):
        rows = ["group b ada", "group d ada", "group a bea", "group c ada", "span a - -"]
        self.assertEqual([group[0] for group in read_story("\n".join(rows))[0][0]], ["b", "d", "a", "c"])

    def test_a_group_without_spans(self):
        plan = read_story("\n".join(["group south ada", *NORTH]))[0]
        self.assertEqual(plan[0], [("south", ("ada",), []), ("north", ("ada", "bea"), [("", "")])])

    def test_spans_sorted_whatever_the_order_of_their_rows(self):
        rows = ["group a ada", "group b ada", "span b t -", "span a b d", "span b - b", "span a d t"]
        expected = [("a", ("ada",), [("b", "d"), ("d", "t")]), ("b", ("ada",), [("", "b"), ("t", "")])]
        self.assertEqual(read_story("\n".join(rows))[0][0], expected)
        self.assertEqual(read_story("\n".join(rows[:2] + rows[:1:-1]))[0][0], expected)

    def test_slacks_of_every_house_sorted_by_names(self):
        rows = ["slack zoe 9 8", "slack bea 7 6", "group b cid dot", "group a bea cid", "span a - -", "slack abe 5 4"]
        self.assertEqual(read_story("\n".join(rows))[0][1], [
            ("abe", 5, 4), ("bea", 7, 6), ("cid", 0, 0), ("dot", 0, 0), ("zoe", 9, 8),
        ])

    def test_the_plan_makes_a_world(self):
        plan, happenings = read_story("\n".join([*NORTH, "slack zoe 0 0"]))
        world = World(plan)
        self.assertEqual((world.standing(), world.groups(), world.time()), (["ada", "bea", "zoe"], ["north"], 200))
        self.assertEqual(world.plan(), plan)
        self.assertEqual(happenings, [])


class Refused(unittest.TestCase):

    def refused(self, rows, error, place):
        for ask in (read_story, told_story):
            with self.assertRaises(StoryError, msg=rows) as caught:
                ask("\n".join(rows))
            self.assertIs(type(caught.exception), error, rows)
            self.assertEqual(caught.exception.place, place, rows)

    def test_bad_row(self):
        self.refused(["hello"], BadRow, 1)
        self.refused([*NORTH, "", "hand 0", "hand"], BadRow, 5)

    def test_misplaced_behind_a_happening(self):
        for row in ("group south ada", "span north b c", "slack ada 0 0", "rest 300"):
            self.refused([*NORTH, "hand 0", "", row], Misplaced, 5)
            for happening in ("copy 0", "lose 1", "wake ada north", "fall ada", "rise ada", "time 5", "deal ada pay b put 1",
                              "cut ada b", "join ada b", "move ada trip - north", "seat ada north bea",
                              "leave ada north bea", "read ada 5 b", "calm 1"):
                self.refused([*NORTH, happening, row, "hand 0"], Misplaced, 4)
        read_story("\n".join(["rest 300", *NORTH, "slack ada 0 0", "group south ada", "hand 0"]))

    def test_misplaced_span(self):
        self.refused(["span north - -", "group north ada"], Misplaced, 1)
        self.refused(["group north ada", "span south - -", "group south ada"], Misplaced, 2)
        self.refused(["group north ada", "slack zoe 0 0", "span zoe - -"], Misplaced, 3)

    def test_twice(self):
        self.refused([*NORTH, "group north ada bea"], Twice, 3)
        self.refused([*NORTH, "group north cid"], Twice, 3)
        self.refused([*NORTH, "slack ada 0 0", "slack bea 0 0", "slack ada 1 1"], Twice, 5)
        self.refused([*NORTH, "slack zoe 0 0", "slack zoe 0 0"], Twice, 4)
        self.refused(["rest 200", *NORTH, "rest 200"], Twice, 4)
        self.refused([*NORTH, "rest 300", "", "rest 400"], Twice, 5)

    def test_too_many_groups(self):
        rows = ["group a ada", "group b ada", "group c ada", "group d ada", "span d - -"]
        self.assertEqual(len(read_story("\n".join(rows))[0][0]), 4)
        self.refused([*rows, "group e ada"], TooMany, 6)
        self.refused(rows[:4] + ["group e ada"] + rows[4:], TooMany, 5)

    def test_too_many_houses(self):
        rows = ["group a a b c d e", "span a - -", "group b d e f g"]
        eight = [*rows, "slack h 0 0"]
        self.assertEqual(len(read_story("\n".join(eight))[0][1]), 8)
        self.refused([*eight, "slack i 0 0"], TooMany, 5)
        self.refused([*eight, "group c a i"], TooMany, 5)
        self.refused([*rows, "group c h i"], TooMany, 4)
        self.refused(["slack i 0 0", "slack j 0 0", *rows], TooMany, 5)
        self.assertEqual(len(read_story("\n".join([*eight, "slack a 1 1", "group c h", "hand 0", "fall zoe"]))[0][1]), 8)

    def test_uneven_without_a_group(self):
        for text, place in (("", 1), ("\n", 2), ("\n\n", 3), ("  ", 1), ("rest 300", 1), ("slack ada 0 0\n", 2), ("hand 0\nhand 1", 2)):
            self.refused(text.split("\n"), Uneven, place)

    def test_uneven_where_a_key_isnt_kept(self):
        for spans in ([], ["b -"], ["- b"], ["- b", "c -"], ["- b", "ba -"], ["aa -"], ["- y", "y z"]):
            rows = ["group north ada", "group south ada", *[f"span north {span}" for span in spans], "", "hand 0", ""]
            self.refused(rows, Uneven, len(rows))
        read_story("group north ada\nspan north a -")

    def test_uneven_where_a_key_is_kept_twice(self):
        for spans in (["- -", "- -"], ["- -", "b c"], ["- c", "b -"], ["- -", "z -"], ["- b", "a -"], ["a -", "- -"],
                      ["- b", "b -", "azz b"], ["- zzzzzzzz", "b c", "zzzzzzzz -"], ["- b", "b c", "b d", "d -"]):
            for groups in (("north", "north", "north", "north"), ("north", "south", "north", "south")):
                rows = ["group north ada", "group south ada"]
                rows += [f"span {group} {span}" for group, span in zip(groups, spans)]
                self.refused(rows, Uneven, len(rows))
                self.refused([*rows, "hand 0", ""], Uneven, len(rows) + 2)

    def test_even(self):
        for spans in (["- -"], ["a -"], ["- b", "b -"], ["b -", "- b"], ["c -", "b c", "- b"]):
            read_story("\n".join(["group north ada", *[f"span north {span}" for span in spans]]))

    def test_of_one_row_the_first_that_is_due(self):
        four = ["group a a b c d e", "group b a f g", "group c h", "group d a", "span a - -"]
        read_story("\n".join(four))
        # BadRow goes ahead of all.
        self.refused([*four, "hand 0", "group a e a"], BadRow, 7)
        self.refused([*four, "group a b a"], BadRow, 6)
        self.refused([*four, "hand 0", "rest 100"], BadRow, 7)
        self.refused([*four, "group e i a"], BadRow, 6)
        self.refused([*four, "span zzz b b"], BadRow, 6)
        # Misplaced goes ahead of Twice and TooMany.
        self.refused([*four, "hand 0", "group a a"], Misplaced, 7)
        self.refused([*four, "hand 0", "group e a"], Misplaced, 7)
        self.refused([*four, "slack a 0 0", "hand 0", "slack a 0 0"], Misplaced, 8)
        self.refused([*four, "rest 300", "hand 0", "rest 300"], Misplaced, 8)
        self.refused([*four, "hand 0", "slack i 0 0"], Misplaced, 7)
        # Twice goes ahead of TooMany.
        self.refused([*four, "group a i"], Twice, 6)
        self.refused([*four, "group d a"], Twice, 6)

    def test_of_several_rows_the_first(self):
        for first, error in (("group north cid", Twice), ("span south b c", Misplaced), ("group south a b c d e f g", BadRow),
                             ("hand", BadRow), ("rest 100", BadRow)):
            for later in ("group north cid", "span south b c", "hello", "calm 99"):
                self.refused([*NORTH, first, later, "", later], error, 3)

    def test_a_refused_row_goes_ahead_of_uneven(self):
        self.refused(["group north ada", "span north b c", "hand 0", "hello"], BadRow, 4)
        self.refused(["", "slack ada 0 0", "slack ada 0 0", ""], Twice, 3)

    def test_the_errors_message_is_a_text(self):
        with self.assertRaises(ValueError) as caught:
            read_story("hello")
        self.assertNotEqual(str(caught.exception), "")


class Shown(unittest.TestCase):

    def test_row_by_row(self):
        groups = [("west", ("cid", "dot"), [("m", "t"), ("t", "")]), ("south", ("ada",), []), ("east", ("ada",), [("", "m")])]
        slacks = [("zoe", 3, 4), ("ada", 0, 0), ("cid", 1, 2), ("dot", 0, 100)]
        happenings = [
            ("hand", 0), ("copy", 12), ("lose", 3), ("wake", "ada", "east"), ("fall", "ada"), ("rise", "ada"), ("time", 1000),
            ("deal", "ada", "pay", (("b", "put", -5), ("c", "add", 0), ("x", "least", 7))), ("cut", "ada", "b"),
            ("join", "ada", "b"), ("move", "ada", "trip", "", "west"), ("move", "cid", "back", "m", "east"),
            ("seat", "ada", "east", "zoe"), ("leave", "ada", "east", "zoe"), ("read", "zoe", 77, "b"), ("calm", 60),
        ]
        self.assertEqual(shown_story((groups, slacks, 300), happenings).split("\n"), [
            "group west cid dot", "span west m t", "span west t -", "group south ada", "group east ada", "span east - m",
            "slack zoe 3 4", "slack ada 0 0", "slack cid 1 2", "slack dot 0 100", "rest 300", "hand 0", "copy 12", "lose 3",
            "wake ada east", "fall ada", "rise ada", "time 1000", "deal ada pay b put -5 c add 0 x least 7", "cut ada b",
            "join ada b", "move ada trip - west", "move cid back m east", "seat ada east zoe", "leave ada east zoe",
            "read zoe 77 b", "calm 60",
        ])

    def test_without_happenings(self):
        plan = ([("north", ("ada",), [("", "")])], [("ada", 0, 0)], 200)
        self.assertEqual(shown_story(plan, []), "group north ada\nspan north - -\nslack ada 0 0\nrest 200")

    def test_reads_back_as_the_same(self):
        texts = [
            "\n".join(NORTH),
            "  rest 250\ngroup b  ada\ngroup a bea\n\nspan a m -\nspan b - m\nslack zoe 1 2\ncalm 3\nmove ada trip - a",
        ]
        for seed in range(20):
            player = plays.Player(seed)
            player.play(120)
            texts.append(shown_story(player.world.plan(), player.done))
        for text in texts:
            told = read_story(text)
            self.assertEqual(read_story(shown_story(*told)), told)
            self.assertEqual(shown_story(*read_story(shown_story(*told))), shown_story(*told))

    def test_of_a_plan_in_another_order(self):
        for seed in range(20):
            player = plays.Player(seed)
            player.play(60)
            groups, slacks, rest = player.world.plan()
            plan, happenings = read_story(shown_story((groups, slacks, rest), player.done))
            self.assertEqual((plan, happenings), ((groups, sorted(slacks), rest), player.done))
            self.assertEqual(state_of(plays.replayed(plan, happenings))[1:], state_of(player.world)[1:])


STORY = """
group east ada bea
span east - m
group west ada
span west m -
slack ada 10 20
slack bea 0 5

calm 1
deal ada pay b put 5 x add -2
calm 1
read bea 300 b
read bea 900 x
move ada trip - west
deal ada wish x least 9
calm 3
read ada 1200 b
read ada 1200 x
"""


class Played(unittest.TestCase):

    def test_row_by_row(self):
        self.assertEqual(told_story(STORY).split("\n"), [
            "begun 450 pay b put 5 x add -2 east",
            "saw 700 bea east b 300 0",
            "blind 700 bea x 900",
            "moved 700 trip - east west",
            "begun 700 wish x least 9 west",
            "told 700 wish 0 ada 690",
            "told 950 pay 720 ada 940",
            "saw 1450 ada west b 1200 5",
            "saw 1450 ada west x 1200 -2",
            "order",
            "720 pay",
            "no fault",
        ])

    def test_without_happenings(self):
        self.assertEqual(told_story("\n".join(NORTH)), "order\nno fault")

    def test_a_move_from_a_key_on(self):
        rows = ["group east ada", "group west ada", "span east - -", "calm 1", "cut ada m", "move ada trip m west"]
        self.assertEqual(told_story("\n".join(rows)), "moved 450 trip m east west\norder\nno fault")

    def test_several_ops_and_an_order_of_several_dealings(self):
        rows = [
            "group north ada", "span north - -", "slack ada 0 7", "rest 999", "wake ada north", "deal ada b b put 1 c add -3 d least -9",
            "deal ada a b least 1 e put 0", "time 100", "deal ada c a add 4", "time 8",
        ]
        self.assertEqual(told_story("\n".join(rows)).split("\n"), [
            "begun 999 b b put 1 c add -3 d least -9 north", "begun 999 a b least 1 e put 0 north",
            "told 1099 b 1006 ada 1099", "told 1099 a 1007 ada 1099", "begun 1099 c a add 4 north", "told 1107 c 1106 ada 1107",
            "order", "1006 b", "1007 a", "1106 c", "no fault",
        ])

    def test_happenings_one_by_one_and_calm(self):
        plan, happenings = read_story(STORY)
        world = World(plan)
        for happening in happenings:
            if happening[0] == "calm":
                plays.calm(world, happening[1])
            else:
                world.happen(happening)
        history = [row for row in told_story(STORY).split("\n") if row.split(" ")[0] in ("begun", "moved", "told", "saw", "blind")]
        self.assertEqual([row.split(" ")[:2] for row in history], [[row[0], str(row[1])] for row in world.history()])
        self.assertEqual(faults(record_of(world)), [])

    def test_a_row_for_each_fault(self):
        # No world has a fault: what is found is put here.
        with mock.patch("farbooks.story.faults", return_value=["this is wrong", "that too"]):
            rows = told_story(STORY).split("\n")
        self.assertEqual(rows[-4:], ["order", "720 pay", "fault this is wrong", "fault that too"])

    def test_the_same_text_is_told_the_same(self):
        self.assertEqual(told_story(STORY), told_story(STORY))

    def test_long_stories_without_a_fault(self):
        kinds = set()
        for seed in range(20):
            player = plays.Player(seed + 40)
            player.play(200)
            plan, happenings = player.world.plan(), player.done
            rows = told_story(shown_story(plan, [("calm", 2), *happenings, ("calm", 5)])).split("\n")
            self.assertEqual(rows[-1], "no fault")
            kinds.update(row.split(" ")[0] for row in rows[:rows.index("order")])
        self.assertEqual(kinds, {"begun", "moved", "told", "saw", "blind"})


if __name__ == "__main__":
    unittest.main()
