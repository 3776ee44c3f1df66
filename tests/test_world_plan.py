"""Point 17: plans, and which house has a Seat where, with which Ledger and which now."""

import unittest

from farbooks.world import World
from tests.worlds import (
    ALL, PUT_B, THREE, alone, commands_of, hand_all, hand_to, lose_all, played, slacks_of, trio, woken,
)


class Plans(unittest.TestCase):

    def check(self, groups, houses):
        world = World((groups, slacks_of(houses), 200))
        self.assertEqual(world.groups(), sorted(group for group, names, spans in groups))
        for house in houses:
            for group, names, spans in groups:
                if house in names:
                    self.assertEqual(world.seat_log(house, group), [(0, ("seats", names))])
                    self.assertEqual(world.names(house, group), names)
                    self.assertEqual(world.kept_place(house, group), 0)
                    self.assertEqual(world.ledger(house, group).owned(), spans)
                else:
                    self.assertIsNone(world.seat_log(house, group))
        self.assertEqual((world.letters(), world.history(), world.papers(), world.chairs()), ([], [], [], []))
        self.assertEqual(world.standing(), sorted(houses))

    def test_one_group(self):
        self.check([("north", ("ada",), ALL)], ["ada"])
        self.check([("north", ("ada", "bea", "cid", "dot", "eve"), [("", "c"), ("c", "m"), ("m", "")])],
                   ["eve", "dot", "cid", "bea", "ada"])

    def test_two_and_three_groups(self):
        self.check([("south", ("bea", "cid"), [("m", "")]), ("north", ("ada", "bea"), [("", "m")])],
                   ["cid", "ada", "bea"])
        self.check([("c", ("ada",), [("", "c"), ("x", "")]), ("a", ("ada",), [("c", "m")]), ("b", ("bea",), [("m", "x")])],
                   ["ada", "bea"])

    def test_four_groups_with_spares_and_a_group_without_spans(self):
        self.check([
            ("d", ("ada", "bea", "cid"), [("", "c")]), ("c", ("dot",), []), ("b", ("eve", "fay"), [("c", "")]),
            ("a", ("ada",), []),
        ], ["hal", "gus", "fay", "eve", "dot", "cid", "bea", "ada"])

    def test_time_at_the_beginning(self):
        for rest in (200, 201, 5000):
            self.assertEqual(alone(rest=rest).time(), rest)


class Seats(unittest.TestCase):

    def test_a_seat_comes_to_be_by_the_first_letter(self):
        world = woken(alone(spares=("zoe",)), "ada", "north")
        self.assertIsNone(world.seat_log("zoe", "north"))
        played(world, ("seat", "ada", "north", "zoe"))
        self.assertEqual([letter[0] for letter in world.letters()], ["add"])
        self.assertIsNone(world.seat_log("zoe", "north"))
        played(world, ("hand", 0))
        self.assertEqual(world.seat_log("zoe", "north"), world.seat_log("ada", "north"))
        self.assertEqual(world.names("zoe", "north"), ("ada", "zoe"))
        self.assertEqual(world.kept_place("zoe", "north"), 1)
        self.assertEqual(world.ledger("zoe", "north").owned(), ALL)

    def test_not_by_a_note(self):
        world = woken(alone(spares=("zoe",)), "ada", "north")
        played(world, ("deal", "ada", "pay", PUT_B))
        self.assertEqual({letter[0] for letter in world.letters()}, {"note"})
        hand_all(world)
        self.assertIsNone(world.seat_log("zoe", "north"))

    def test_not_while_it_has_fallen(self):
        world = woken(alone(spares=("zoe",)), "ada", "north")
        played(world, ("seat", "ada", "north", "zoe"), ("fall", "zoe"), ("copy", 0), ("rise", "zoe"))
        self.assertIsNone(world.seat_log("zoe", "north"))
        played(world, ("hand", 0))
        self.assertIsNotNone(world.seat_log("zoe", "north"))

    def test_it_begins_with_the_group_s_first_houses(self):
        # The second term's chair tells at first only what it put itself: that doesn't fit here.
        world = alone(spares=("yan", "zoe"))
        played(world, ("wake", "ada", "north"), ("fall", "ada"), ("rise", "ada"), ("wake", "ada", "north"))
        played(world, ("seat", "ada", "north", "zoe"), ("hand", 0))
        self.assertEqual(world.seat_log("zoe", "north"), [(0, ("seats", ("ada",)))])
        self.assertEqual(world.names("zoe", "north"), ("ada",))
        hand_all(world)
        self.assertEqual(world.names("zoe", "north"), ("ada", "zoe"))
        played(world, ("seat", "ada", "north", "yan"))
        hand_to(world, "yan")
        self.assertEqual(world.seat_log("yan", "north")[0], (0, ("seats", ("ada",))))

    def test_an_ask_lets_it_come_to_be_too(self):
        world = woken(trio(spares=("zoe",)), "ada", "north")
        played(world, ("seat", "ada", "north", "zoe"))
        hand_to(world, "bea")
        lose_all(world)
        played(world, ("fall", "ada"), ("wake", "bea", "north"))
        self.assertIsNone(world.seat_log("zoe", "north"))
        self.assertEqual(hand_to(world, "zoe")[0], "ask")
        self.assertEqual(world.seat_log("zoe", "north"), [(0, ("seats", THREE))])

    def test_a_seat_of_the_plan_is_not_begun_anew_by_a_letter(self):
        world = woken(trio(), "ada", "north")
        self.assertEqual(commands_of(world, "cid", "north"), [("seats", THREE), ("none",)])

    def test_kept_entries_are_applied_by_all(self):
        world = woken(trio(), "ada", "north")
        hand_all(played(world, ("cut", "ada", "m")))
        for number in range(2):
            woken(world, "ada", "north")
        for house in THREE:
            self.assertEqual(world.ledger(house, "north").owned(), [("", "m"), ("m", "")])
            self.assertEqual(world.ledger(house, "north").last(), 190)


class Now(unittest.TestCase):

    def test_early_by_the_slack(self):
        for under in (0, 1, 100):
            world = woken(alone(under=under), "ada", "north")
            played(world, ("time", 7), ("wake", "ada", "north"))
            self.assertEqual(world.seat_log("ada", "north")[-1], (1, ("mark", 207 - under)))

    def test_late_by_the_slack(self):
        for over in (0, 1, 100):
            world = woken(alone(over=over), "ada", "north")
            played(world, ("time", 7), ("deal", "ada", "pay", PUT_B))
            self.assertEqual(world.ledger("ada", "north").chosen("pay"), 207 + over)

    def test_each_house_has_its_own(self):
        groups = [("north", ("ada",), [("", "m")]), ("south", ("bea",), [("m", "")])]
        world = World((groups, [("bea", 30, 3), ("ada", 20, 2)], 1000))
        for house, group in (("ada", "north"), ("bea", "south")):
            played(world, ("wake", house, group), ("wake", house, group))
        self.assertEqual(world.ledger("ada", "north").last(), 980)
        self.assertEqual(world.ledger("bea", "south").last(), 970)


if __name__ == "__main__":
    unittest.main()
