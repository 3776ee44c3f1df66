"""Point 20: the questions of a world, and its history."""

import unittest

from farbooks.ledger import Ledger
from farbooks.world import World
from tests.worlds import (
    ALL, BOTH, PUT_B, PUT_X, THREE, alone, apart, hand_all, hand_to, lose_all, pair, played, slacks_of, trio, woken,
)


def rows_of(world, kind):
    return [row for row in world.history() if row[0] == kind]


class Questions(unittest.TestCase):

    def test_plan(self):
        plan = ([("west", ("ada", "cid"), [("m", "")]), ("east", ("bea",), [("", "c"), ("c", "m")])],
                [("cid", 1, 2), ("ada", 0, 100), ("bea", 100, 0), ("zoe", 5, 5)], 777)
        world = World(plan)
        self.assertEqual(world.plan(), plan)
        for house, group in (("bea", "east"), ("ada", "west")):
            woken(world, house, group)
        played(world, ("cut", "bea", "b"), ("move", "bea", "trip", "", "west"), ("time", 9))
        self.assertEqual(world.plan(), plan)

    def test_time_and_groups(self):
        world = pair()
        played(world, ("time", 5))
        self.assertEqual((world.time(), world.groups()), (205, ["east", "west"]))

    def test_standing_and_chairs(self):
        groups = [("west", ("ada", "bea"), [("m", "")]), ("east", ("bea",), [("", "m")])]
        world = World((groups, slacks_of(("zoe", "bea", "ada")), 200))
        self.assertEqual((world.standing(), world.chairs()), (["ada", "bea", "zoe"], []))
        woken(world, "bea", "west")
        woken(world, "bea", "east")
        self.assertEqual(world.chairs(), [("east", 1, "bea"), ("west", 1, "bea")])
        played(world, ("wake", "ada", "west"), ("hand", 0))
        self.assertEqual(world.chairs(), [("east", 1, "bea")])
        hand_all(world)
        self.assertEqual(world.chairs(), [("east", 1, "bea"), ("west", 2, "ada")])
        played(world, ("fall", "ada"))
        self.assertEqual((world.standing(), world.chairs()), (["bea", "zoe"], [("east", 1, "bea")]))

    def test_two_chairs_of_one_group(self):
        world = woken(trio(), "ada", "north")
        played(world, ("wake", "bea", "north"))
        hand_to(world, "cid", "ask")
        hand_to(world, "bea", "vote")
        self.assertEqual(world.chairs(), [("north", 1, "ada"), ("north", 2, "bea")])

    def test_letters(self):
        world = trio()
        self.assertEqual(world.letters(), [])
        played(world, ("wake", "cid", "north"))
        self.assertEqual(world.letters(), [("ask", "north", "cid", to, 1, 0, 0) for to in ("ada", "bea")])

    def test_ledger(self):
        world = woken(alone(), "ada", "north")
        self.assertIsInstance(world.ledger("ada", "north"), Ledger)
        played(world, ("deal", "ada", "pay", PUT_B))
        ledger = world.ledger("ada", "north")
        self.assertEqual((ledger.value("b"), ledger.chosen("pay"), ledger.ended("pay"), ledger.last()), (5, 220, 220, 220))

    def test_seat_log_names_and_kept_place(self):
        world = woken(trio(), "ada", "north")
        log = [(0, ("seats", THREE)), (1, ("none",))]
        for house in THREE:
            self.assertEqual(world.seat_log(house, "north"), log)
            self.assertEqual(world.names(house, "north"), THREE)
            self.assertEqual(world.kept_place(house, "north"), 1)
        played(world, ("leave", "ada", "north", "cid"))
        self.assertEqual(world.seat_log("ada", "north"), log + [(1, ("seats", ("ada", "bea")))])
        self.assertEqual([world.names(house, "north") for house in THREE], [("ada", "bea"), THREE, THREE])
        self.assertEqual([world.kept_place(house, "north") for house in THREE], [1, 1, 1])

    def test_names_that_the_plan_does_not_tell(self):
        world = woken(trio(spares=("zoe",)), "ada", "north")
        for ask in (world.ledger, world.seat_log, world.names, world.kept_place):
            for house, group in (("zoe", "north"), ("kim", "north"), ("ada", "south"), ("kim", "south"), ("", "")):
                self.assertIsNone(ask(house, group))

    def test_fallen_houses(self):
        world = woken(trio(), "ada", "north")
        hand_all(played(world, ("cut", "ada", "m")))
        log = world.seat_log("ada", "north")
        played(world, ("fall", "ada"))
        self.assertEqual(world.seat_log("ada", "north"), log)
        self.assertEqual(world.names("ada", "north"), THREE)
        self.assertEqual(world.kept_place("ada", "north"), 0)
        self.assertEqual(world.ledger("ada", "north").owned(), ALL)

    def test_papers_by_houses_and_groups(self):
        groups = [("west", ("ada", "bea"), [("m", "")]), ("east", ("ada",), [("", "m")])]
        world = World((groups, slacks_of(("bea", "ada")), 200))
        self.assertEqual(world.papers(), [])
        woken(world, "bea", "west")
        woken(world, "ada", "west")
        woken(world, "ada", "east")
        pair_of = ("ada", "bea")
        papers = [
            ("chair", "east", 1, "ada", ("ada",), ("ada",)), ("kept", "east", 1, 1, ("ada",), ("ada",)),
            ("chair", "west", 2, "ada", pair_of, pair_of), ("kept", "west", 2, 2, pair_of, pair_of),
            ("chair", "west", 1, "bea", pair_of, pair_of), ("kept", "west", 1, 1, pair_of, pair_of),
        ]
        self.assertEqual(world.papers(), papers)
        played(world, ("fall", "ada"))
        self.assertEqual(world.papers(), papers)


class Begun(unittest.TestCase):

    def test_as_an_open_is_proposed(self):
        world = woken(apart(), "ada", "east")
        played(world, ("time", 4), ("deal", "ada", "pay", BOTH), ("time", 1), ("deal", "ada", "loan", PUT_B))
        self.assertEqual(world.history(), [
            ("begun", 204, "pay", BOTH, "east"), ("begun", 205, "loan", PUT_B, "east"),
            ("told", 205, "loan", 0, "ada", 195),
        ])

    def test_once(self):
        world = woken(trio(), "ada", "north")
        played(world, ("deal", "ada", "pay", PUT_B), ("deal", "ada", "pay", PUT_B), ("deal", "ada", "pay", PUT_X))
        hand_all(world)
        self.assertEqual(rows_of(world, "begun"), [("begun", 200, "pay", PUT_B, "north")])

    def test_moved(self):
        world = woken(apart(), "ada", "east")
        played(world, ("time", 4), ("move", "ada", "trip", "", "west"), ("move", "ada", "trip", "", "west"))
        hand_all(world)
        self.assertEqual(world.history(), [("moved", 204, "trip", "", "east", "west")])


class Told(unittest.TestCase):

    def test_where_the_verdict_is_less_than_early(self):
        world = woken(alone(), "ada", "north")
        played(world, ("deal", "ada", "pay", PUT_B), ("time", 29), ("time", 1))
        self.assertEqual(rows_of(world, "told"), [])
        played(world, ("time", 1))
        self.assertEqual(world.history()[1:], [("told", 231, "pay", 220, "ada", 221)])

    def test_once_for_each_house(self):
        world = woken(alone(), "ada", "north")
        played(world, ("deal", "ada", "pay", PUT_B), ("time", 50), ("time", 50), ("wake", "ada", "north"))
        self.assertEqual(rows_of(world, "told"), [("told", 250, "pay", 220, "ada", 240)])

    def test_refused_is_told_at_once(self):
        world = woken(alone(under=100), "ada", "north")
        played(world, ("deal", "ada", "pay", (("b", "least", 1),)))
        self.assertEqual(world.history()[1:], [("told", 200, "pay", 0, "ada", 100)])

    def test_told_anew_by_a_house_that_has_risen(self):
        world = woken(alone(), "ada", "north")
        played(world, ("deal", "ada", "pay", PUT_B), ("time", 50), ("fall", "ada"), ("time", 10), ("rise", "ada"))
        self.assertEqual(len(rows_of(world, "told")), 1)
        played(world, ("wake", "ada", "north"), ("time", 1), ("wake", "ada", "north"))
        self.assertEqual(rows_of(world, "told"), [
            ("told", 250, "pay", 220, "ada", 240), ("told", 260, "pay", 220, "ada", 250),
        ])

    def test_by_chairs_only(self):
        world = woken(trio(), "ada", "north")
        hand_all(played(world, ("deal", "ada", "pay", PUT_B)))
        for number in range(3):
            woken(world, "ada", "north")
        self.assertEqual(world.ledger("cid", "north").chosen("pay"), 220)
        played(world, ("time", 100))
        self.assertEqual([row[4] for row in rows_of(world, "told")], ["ada"])

    def test_by_the_next_chair_too(self):
        world = woken(trio(), "ada", "north")
        hand_all(played(world, ("deal", "ada", "pay", PUT_B)))
        played(world, ("time", 100))
        woken(world, "bea", "north")
        self.assertEqual([row[4] for row in rows_of(world, "told")], ["ada", "bea"])
        woken(world, "ada", "north")
        self.assertEqual([row[4] for row in rows_of(world, "told")], ["ada", "bea"])

    def test_each_by_its_own_early(self):
        world = World(([("north", ("ada", "bea"), ALL)], [("ada", 0, 20), ("bea", 100, 20)], 200))
        woken(world, "ada", "north")
        hand_all(played(world, ("deal", "ada", "pay", PUT_B)))
        played(world, ("time", 30))
        woken(world, "bea", "north")
        self.assertEqual(rows_of(world, "told"), [("told", 230, "pay", 220, "ada", 230)])
        played(world, ("time", 90))
        self.assertEqual(rows_of(world, "told"), [("told", 230, "pay", 220, "ada", 230)])
        played(world, ("time", 1))
        self.assertEqual(rows_of(world, "told")[1:], [("told", 321, "pay", 220, "bea", 221)])

    def test_by_houses_groups_and_the_order_of_opening(self):
        groups = [("west", ("ada",), [("m", "t")]), ("south", ("abe",), [("t", "")]), ("east", ("ada",), [("", "m")])]
        world = World((groups, slacks_of(("ada", "abe")), 200))
        for house, group in (("ada", "west"), ("ada", "east"), ("abe", "south")):
            woken(world, house, group)
        for house, deal, key in (
            ("ada", "pay", "n"), ("ada", "loan", "b"), ("ada", "debt", "b"), ("abe", "zeal", "x"), ("abe", "rent", "x"),
        ):
            played(world, ("deal", house, deal, ((key, "add", 1),)))
        self.assertEqual(rows_of(world, "told"), [])
        played(world, ("time", 100))
        self.assertEqual([row[2] for row in rows_of(world, "told")], ["zeal", "rent", "loan", "debt", "pay"])

    def test_in_the_order_of_opening_not_of_choosing(self):
        world = apart()
        for house, group in (("ada", "east"), ("bea", "west")):
            woken(world, house, group)
        played(world, ("deal", "ada", "pay", BOTH))
        lose_all(world)
        played(world, ("deal", "ada", "loan", (("c", "put", 1),)))
        played(world, ("wake", "ada", "east"))
        hand_all(world)
        self.assertIsNotNone(world.ledger("ada", "east").chosen("pay"))
        played(world, ("time", 100))
        self.assertEqual([row[2] for row in rows_of(world, "told")], ["pay", "loan"])


class Seen(unittest.TestCase):

    def test_one_ledger(self):
        world = woken(alone(), "ada", "north")
        played(world, ("deal", "ada", "pay", PUT_B), ("read", "ada", 220, "b"), ("read", "ada", 219, "b"))
        self.assertEqual(world.history()[1:], [
            ("saw", 200, "ada", "north", "b", 220, 5), ("saw", 200, "ada", "north", "b", 219, 0),
        ])

    def test_each_time_it_is_asked(self):
        world = alone()
        played(world, ("read", "ada", 0, "a"), ("read", "ada", 0, "a"))
        self.assertEqual(world.history(), [("saw", 200, "ada", "north", "a", 0, 0)] * 2)

    def test_blind(self):
        world = woken(alone(), "ada", "north")
        played(world, ("deal", "ada", "pay", PUT_B), ("time", 7), ("read", "ada", 221, "b"))
        self.assertEqual(rows_of(world, "blind"), [("blind", 207, "ada", "b", 221)])
        self.assertEqual(rows_of(world, "saw"), [])

    def test_a_house_without_a_seat(self):
        world = played(alone(spares=("zoe",)), ("read", "zoe", 0, "b"))
        self.assertEqual(world.history(), [("blind", 200, "zoe", "b", 0)])

    def test_a_follower_is_asked_too(self):
        world = woken(trio(), "ada", "north")
        hand_all(played(world, ("deal", "ada", "pay", PUT_B)))
        for number in range(2):
            woken(world, "ada", "north")
        played(world, ("read", "cid", 220, "b"))
        self.assertEqual(rows_of(world, "saw"), [("saw", 200, "cid", "north", "b", 220, 5)])

    def test_several_ledgers_by_groups(self):
        world = pair()
        for group in ("west", "east"):
            woken(world, "ada", group)
        played(world, ("deal", "ada", "pay", PUT_X), ("move", "ada", "trip", "m", "east"))
        played(world, ("read", "ada", 220, "x"), ("read", "ada", 221, "x"), ("read", "ada", 222, "x"))
        self.assertEqual(world.history()[2:], [
            ("saw", 200, "ada", "east", "x", 220, 7), ("saw", 200, "ada", "west", "x", 220, 7),
            ("saw", 200, "ada", "east", "x", 221, 7), ("blind", 200, "ada", "x", 222),
        ])

    def test_while_a_dealing_is_ready(self):
        world = woken(apart(), "ada", "east")
        played(world, ("deal", "ada", "pay", BOTH), ("read", "ada", 189, "b"), ("read", "ada", 190, "b"))
        played(world, ("read", "ada", 190, "c"))
        self.assertEqual(world.history()[1:], [
            ("saw", 200, "ada", "east", "b", 189, 0), ("blind", 200, "ada", "b", 190),
            ("saw", 200, "ada", "east", "c", 190, 0),
        ])


if __name__ == "__main__":
    unittest.main()
