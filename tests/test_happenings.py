"""Point 19: each happening, where it does something and where it does nothing."""

import unittest

from farbooks.world import World
from tests.worlds import (
    ALL, BOTH, PUT_B, PUT_X, THREE, alone, apart, brief, commands_of, hand_all, hand_to, lose_all, pair, played,
    slacks_of, state_of, trio, woken,
)


class Checks(unittest.TestCase):

    def does_nothing(self, world, *happenings):
        for happening in happenings:
            before = state_of(world)
            world.happen(happening)
            self.assertEqual(state_of(world), before, happening)


class Letters(Checks):

    def setUp(self):
        groups = [("north", ("ada", "bea", "cid", "dot", "eve"), ALL)]
        self.world = World((groups, slacks_of(("ada", "bea", "cid", "dot", "eve")), 200))
        played(self.world, ("wake", "ada", "north"))
        self.asks = self.world.letters()

    def test_none_under_way(self):
        self.does_nothing(alone(), *[(kind, number) for kind in ("hand", "copy", "lose") for number in (0, 1, 7)])

    def test_hand(self):
        for number, place in ((0, 0), (3, 3), (4, 0), (6, 2), (403, 3)):
            self.setUp()
            played(self.world, ("hand", number))
            left = self.asks[:place] + self.asks[place + 1:]
            answer = ("vote", "north", self.asks[place][3], "ada", 1, True)
            self.assertEqual(self.world.letters(), left + [answer])

    def test_copy(self):
        for number, place in ((0, 0), (3, 3), (4, 0), (6, 2), (403, 3)):
            self.setUp()
            played(self.world, ("copy", number))
            answer = ("vote", "north", self.asks[place][3], "ada", 1, True)
            self.assertEqual(self.world.letters(), self.asks + [answer])

    def test_lose(self):
        for number, place in ((0, 0), (3, 3), (4, 0), (6, 2), (403, 3)):
            self.setUp()
            played(self.world, ("lose", number))
            self.assertEqual(self.world.letters(), self.asks[:place] + self.asks[place + 1:])

    def test_to_a_fallen_house(self):
        played(self.world, ("fall", "bea"), ("copy", 0))
        self.assertEqual(self.world.letters(), self.asks)
        played(self.world, ("hand", 0))
        self.assertEqual(self.world.letters(), self.asks[1:])

    def test_a_copy_may_be_handed_again(self):
        played(self.world, ("copy", 0), ("copy", 0), ("hand", 0))
        self.assertEqual(self.world.letters(), self.asks[1:] + [("vote", "north", "bea", "ada", 1, True)] * 3)
        hand_all(self.world)
        self.assertEqual(self.world.chairs(), [("north", 1, "ada")])


class Wake(Checks):

    def test_of_a_follower_and_of_a_chair(self):
        world = played(trio(), ("wake", "bea", "north"))
        self.assertEqual(brief(world.letters()), [("ask", "ada"), ("ask", "cid")])
        hand_all(world)
        self.assertEqual(world.chairs(), [("north", 1, "bea")])
        played(world, ("wake", "bea", "north"))
        self.assertEqual(brief(world.letters()), [("add", "ada"), ("add", "cid")])
        self.assertEqual(commands_of(world, "bea", "north"), [("seats", THREE), ("none",), ("mark", 190)])

    def test_a_second_mark_is_not_proposed_while_one_is_pending(self):
        world = woken(trio(), "ada", "north")
        played(world, ("wake", "ada", "north"), ("time", 50), ("wake", "ada", "north"))
        self.assertEqual(commands_of(world, "ada", "north")[2:], [("mark", 190)])

    def test_without_a_seat_there(self):
        world = alone(spares=("zoe",))
        self.does_nothing(world, ("wake", "zoe", "north"), ("wake", "zoe", "south"), ("wake", "ada", "south"))

    def test_one_that_is_none_of_the_seats(self):
        world = played(alone(spares=("zoe",)), ("wake", "ada", "north"), ("fall", "ada"), ("rise", "ada"))
        played(world, ("wake", "ada", "north"), ("seat", "ada", "north", "zoe"), ("hand", 0))
        self.assertEqual(world.names("zoe", "north"), ("ada",))
        self.does_nothing(world, ("wake", "zoe", "north"))


class FallAndRise(Checks):

    def test_fall_and_rise(self):
        world = trio()
        played(world, ("fall", "bea"))
        self.assertEqual(world.standing(), ["ada", "cid"])
        self.does_nothing(world, ("fall", "bea"), ("rise", "ada"), ("rise", "cid"))
        played(world, ("rise", "bea"))
        self.assertEqual(world.standing(), ["ada", "bea", "cid"])
        self.does_nothing(world, ("rise", "bea"))

    def test_a_rise_of_a_chair_that_stands(self):
        world = woken(trio(), "ada", "north")
        self.does_nothing(world, ("rise", "ada"))
        self.assertEqual(world.chairs(), [("north", 1, "ada")])

    def test_all_may_fall(self):
        world = woken(trio(), "ada", "north")
        played(world, ("fall", "ada"), ("fall", "bea"), ("fall", "cid"))
        self.assertEqual((world.standing(), world.chairs()), ([], []))
        played(world, ("rise", "cid"), ("rise", "bea"), ("time", 10))
        woken(world, "cid", "north")
        self.assertEqual(world.chairs(), [("north", 2, "cid")])


class Time(Checks):

    def test_it_grows(self):
        world = alone()
        for number, hour in ((0, 200), (1, 201), (1000, 1201)):
            played(world, ("time", number))
            self.assertEqual(world.time(), hour)
        self.does_nothing(world, ("time", 0))


class Deal(Checks):

    def test_by_a_chair_that_owns_the_first_key(self):
        world = woken(trio(), "ada", "north")
        played(world, ("time", 3), ("deal", "ada", "pay", PUT_B))
        self.assertEqual(commands_of(world, "ada", "north")[-1], ("open", "pay", PUT_B))
        self.assertEqual(world.history(), [("begun", 203, "pay", PUT_B, "north")])

    def test_by_no_chair(self):
        world = woken(trio(spares=("zoe",)), "ada", "north")
        self.does_nothing(world, *[("deal", house, "pay", PUT_B) for house in ("bea", "cid", "zoe")])
        played(world, ("deal", "ada", "pay", PUT_B))
        self.assertEqual(len(world.history()), 1)

    def test_where_the_first_key_is_not_owned(self):
        world = woken(apart(), "ada", "east")
        self.does_nothing(world, ("deal", "ada", "pay", PUT_X))
        played(world, ("deal", "ada", "pay", BOTH))
        self.assertEqual(world.history()[0], ("begun", 200, "pay", BOTH, "east"))

    def test_the_group_that_owns_it(self):
        world = pair()
        for group in ("east", "west"):
            woken(world, "ada", group)
        played(world, ("deal", "ada", "pay", PUT_X), ("deal", "ada", "loan", PUT_B))
        self.assertEqual([row[4] for row in world.history() if row[0] == "begun"], ["west", "east"])

    def test_the_first_such_group_by_names(self):
        # For a while two ledgers of a house own a key: east has not kept its give yet, or knows nothing of it any more.
        groups = [("west", ("ada",), []), ("east", ("ada", "bea", "cid"), ALL)]
        world = World((groups, slacks_of(THREE), 200))
        woken(world, "ada", "west")
        woken(world, "bea", "east")
        hand_all(played(world, ("move", "bea", "trip", "", "west")))
        self.assertEqual(world.ledger("ada", "west").owned(), ALL)
        played(world, ("fall", "ada"), ("rise", "ada"))
        woken(world, "ada", "west")
        played(world, ("wake", "ada", "east"))
        hand_to(world, "cid", "ask")
        hand_to(world, "ada", "vote")
        self.assertEqual(world.chairs(), [("east", 1, "bea"), ("east", 2, "ada"), ("west", 2, "ada")])
        self.assertEqual([world.ledger("ada", group).owned() for group in ("east", "west")], [ALL, ALL])
        played(world, ("deal", "ada", "pay", PUT_B), ("cut", "ada", "m"), ("move", "ada", "back", "", "west"))
        self.assertEqual([command[0] for command in commands_of(world, "ada", "east")][-3:], ["open", "cut", "give"])
        self.assertEqual([row[-2:] for row in world.history() if row[2] == "back"], [("east", "west")])
        played(world, ("move", "ada", "on", "", "east"))
        self.assertEqual(commands_of(world, "ada", "west")[-1][:4], ("give", "on", "", "east"))

    def test_names_are_used_up_once_proposed(self):
        world = woken(trio(), "ada", "north")
        played(world, ("deal", "ada", "pay", PUT_B))
        lose_all(world)
        self.does_nothing(world, ("deal", "ada", "pay", PUT_X))
        played(world, ("fall", "ada"))
        hand_all(woken(world, "bea", "north"))
        self.assertEqual(world.chairs(), [("north", 2, "bea")])
        self.assertIsNone(world.ledger("bea", "north").chosen("pay"))
        self.does_nothing(world, ("deal", "bea", "pay", PUT_X))

    def test_names_are_used_up_by_nothing_else(self):
        world = woken(apart(), "ada", "east")
        played(
            world, ("deal", "bea", "pay", PUT_X), ("deal", "ada", "pay", PUT_X), ("deal", "zoe", "pay", PUT_B),
            ("move", "ada", "pay", "", "west"),
        )
        self.assertEqual([row[:3] for row in world.history()], [("moved", 200, "pay")])
        played(world, ("wake", "bea", "west"))
        played(world, ("deal", "bea", "pay", PUT_X))
        self.assertEqual(world.history()[-1], ("begun", 200, "pay", PUT_X, "west"))

    def test_an_open_that_is_kept_behind_a_give_is_away(self):
        groups = [("east", ("ada", "bea"), ALL), ("west", ("bea",), [])]
        world = World((groups, slacks_of(("ada", "bea")), 200))
        woken(world, "ada", "east")
        played(world, ("move", "ada", "trip", "", "west"), ("deal", "ada", "pay", PUT_B))
        hand_all(world)
        self.assertEqual(world.ledger("ada", "east").opened(), [])
        self.assertEqual([row[0] for row in world.history()], ["moved", "begun"])
        self.does_nothing(world, ("deal", "ada", "pay", PUT_B))


class Spans(Checks):

    def test_cut_and_join(self):
        world = pair(spares=())
        for group in ("east", "west"):
            woken(world, "ada", group)
        played(world, ("cut", "ada", "c"), ("cut", "ada", "t"))
        self.assertEqual(world.ledger("ada", "east").owned(), [("", "c"), ("c", "m")])
        self.assertEqual(world.ledger("ada", "west").owned(), [("m", "t"), ("t", "")])
        played(world, ("join", "ada", "t"))
        self.assertEqual(world.ledger("ada", "west").owned(), [("m", "")])
        self.assertEqual(commands_of(world, "ada", "west")[2:], [("cut", "t"), ("join", "t")])
        self.assertEqual(commands_of(world, "ada", "east")[2:], [("cut", "c")])

    def test_they_are_proposed_whatever_comes_of_them(self):
        world = woken(alone(), "ada", "north")
        played(world, ("cut", "ada", "a"), ("join", "ada", "m"), ("cut", "ada", "m"), ("cut", "ada", "m"))
        self.assertEqual(commands_of(world, "ada", "north")[2:], [("cut", "a"), ("join", "m"), ("cut", "m"), ("cut", "m")])
        self.assertEqual(world.ledger("ada", "north").owned(), [("", "m"), ("m", "")])

    def test_by_no_chair_or_not_owned(self):
        world = woken(apart(), "ada", "east")
        self.does_nothing(
            world, ("cut", "ada", "x"), ("join", "ada", "m"), ("cut", "bea", "x"), ("join", "bea", "m"),
            ("cut", "bea", "c"),
        )


class Move(Checks):

    def test_the_moment_by_last_and_pending_moments(self):
        groups = [("north", THREE, ALL), ("south", ("ada",), [])]
        for wakings, moment in ((0, 1), (1, 191)):
            world = woken(World((groups, slacks_of(THREE, 10, 20), 200)), "ada", "north")
            for number in range(wakings):
                played(world, ("wake", "ada", "north"))
            self.assertEqual(world.ledger("ada", "north").last(), 0)
            played(world, ("move", "ada", "trip", "", "south"))
            self.assertEqual(commands_of(world, "ada", "north")[-1], ("give", "trip", "", "south", moment))
            played(world, ("move", "ada", "tour", "", "south"))
            self.assertEqual(commands_of(world, "ada", "north")[-1], ("give", "tour", "", "south", moment + 1))

    def test_the_moment_by_last(self):
        world = pair()
        for number in range(2):
            woken(world, "ada", "east")
        played(world, ("move", "ada", "trip", "", "west"))
        self.assertEqual(commands_of(world, "ada", "east")[-1], ("give", "trip", "", "west", 191))
        self.assertEqual(world.history(), [("moved", 200, "trip", "", "east", "west")])

    def test_where_it_does_nothing(self):
        world = woken(apart(), "ada", "east")
        self.does_nothing(
            world, ("move", "ada", "trip", "", "east"), ("move", "ada", "trip", "", "north"),
            ("move", "ada", "trip", "c", "west"), ("move", "ada", "trip", "m", "east"),
            ("move", "bea", "trip", "m", "east"), ("move", "zoe", "trip", "", "west"),
        )
        played(world, ("cut", "ada", "c"), ("move", "ada", "trip", "c", "west"))
        self.assertEqual(world.history(), [("moved", 200, "trip", "c", "east", "west")])
        self.does_nothing(world, ("move", "ada", "trip", "", "west"))

    def test_names_are_used_up_once_proposed(self):
        groups = [("north", THREE, ALL), ("south", THREE, [])]
        world = woken(World((groups, slacks_of(THREE), 200)), "ada", "north")
        played(world, ("move", "ada", "trip", "", "south"))
        lose_all(world)
        played(world, ("fall", "ada"))
        woken(world, "bea", "north")
        self.assertEqual(world.ledger("bea", "north").owned(), ALL)
        self.does_nothing(world, ("move", "bea", "trip", "", "south"))
        played(world, ("deal", "bea", "trip", PUT_B), ("move", "bea", "tour", "", "south"))
        self.assertEqual([row[0] for row in world.history()], ["moved", "begun", "moved"])

    def test_the_first_seat_of_another_group(self):
        groups = [("west", ("ada",), ALL), ("east", ("ada",), []), ("south", ("ada",), [])]
        world = World((groups, slacks_of(("ada",)), 200))
        for group in ("west", "east", "south"):
            woken(world, "ada", group)
        played(world, ("move", "ada", "trip", "", "east"), ("move", "ada", "tour", "", "south"))
        self.assertEqual([row[2:] for row in world.history()], [("trip", "", "west", "east"), ("tour", "", "east", "south")])
        self.assertEqual(world.ledger("ada", "south").owned(), ALL)


class Seats(Checks):

    def test_seat_and_leave(self):
        world = woken(trio(spares=("zoe", "abe")), "bea", "north")
        played(world, ("seat", "bea", "north", "abe"))
        self.assertEqual(world.names("bea", "north"), ("abe", "ada", "bea", "cid"))
        self.assertEqual(brief(world.letters()), [("add", "abe"), ("add", "ada"), ("add", "cid")])
        hand_all(world)
        played(world, ("leave", "bea", "north", "ada"))
        self.assertEqual(world.names("bea", "north"), ("abe", "bea", "cid"))
        self.assertEqual(commands_of(world, "bea", "north")[-1], ("seats", ("abe", "bea", "cid")))
        self.assertEqual(brief(world.letters()), [("add", "abe"), ("add", "cid")])
        hand_all(world)
        self.assertEqual(world.names("ada", "north"), ("abe", "ada", "bea", "cid"))

    def test_where_it_does_nothing(self):
        world = woken(trio(spares=("zoe",)), "ada", "north")
        self.does_nothing(
            world, ("seat", "ada", "north", "bea"), ("seat", "ada", "north", "ada"), ("leave", "ada", "north", "zoe"),
            ("leave", "ada", "north", "ada"), ("seat", "bea", "north", "zoe"), ("leave", "cid", "north", "bea"),
            ("seat", "ada", "south", "zoe"), ("seat", "ada", "north", "kim"), ("leave", "ada", "north", "kim"),
            ("seat", "zoe", "north", "zoe"), ("seat", "kim", "north", "zoe"),
        )
        played(world, ("seat", "ada", "north", "zoe"))
        self.does_nothing(world, ("leave", "ada", "north", "zoe"), ("leave", "ada", "north", "bea"))

    def test_the_other_house_may_have_fallen(self):
        world = woken(trio(spares=("zoe",)), "ada", "north")
        played(world, ("fall", "zoe"), ("seat", "ada", "north", "zoe"))
        self.assertEqual(world.names("ada", "north"), ("ada", "bea", "cid", "zoe"))

    def test_a_group_left_to_one(self):
        groups = [("north", ("ada", "bea"), ALL)]
        world = woken(World((groups, slacks_of(("ada", "bea")), 200)), "ada", "north")
        played(world, ("leave", "ada", "north", "bea"))
        self.assertEqual(world.kept_place("ada", "north"), 2)
        self.assertEqual(world.letters(), [])


class Unknown(Checks):

    HAPPENINGS = (
        ("wake", "{}", "north"), ("fall", "{}"), ("deal", "{}", "pay", PUT_B), ("cut", "{}", "m"), ("join", "{}", "m"),
        ("move", "{}", "trip", "", "south"), ("seat", "{}", "north", "bea"), ("leave", "{}", "north", "cid"),
        ("read", "{}", 0, "a"),
    )

    def world(self):
        groups = [("north", THREE, ALL), ("south", ("bea",), [])]
        return woken(World((groups, slacks_of(THREE), 200)), "ada", "north")

    def of_house(self, house):
        return [tuple(house if word == "{}" else word for word in row) for row in self.HAPPENINGS]

    def test_names_that_are_not_in_the_plan(self):
        self.does_nothing(self.world(), *self.of_house("zoe"), ("rise", "zoe"))
        self.does_nothing(
            self.world(), ("wake", "ada", "east"), ("move", "ada", "trip", "", "east"), ("seat", "ada", "east", "bea"),
            ("leave", "ada", "east", "bea"), ("seat", "ada", "north", "zoe"), ("leave", "ada", "north", "zoe"),
        )

    def test_a_fallen_house_first(self):
        world = played(self.world(), ("fall", "ada"))
        self.does_nothing(world, *self.of_house("ada"))

    def test_the_same_of_a_chair_does_something(self):
        for happening in self.of_house("ada"):
            world = self.world()
            before = state_of(world)
            world.happen(happening)
            if happening[0] != "seat":
                self.assertNotEqual(state_of(world), before, happening)


if __name__ == "__main__":
    unittest.main()
