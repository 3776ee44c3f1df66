"""Points 23 and 24: calm, and settled worlds."""

import unittest

from farbooks.calming import calm, settled
from farbooks.world import World
from tests import plays
from tests.worlds import (
    BOTH, PUT_B, THREE, apart, brief, hand_all, hand_to, lose_all, played, slacks_of, state_of, trio, woken,
)

TIME = ("time", 250)
HAND = ("hand", 0)


def wakes(happenings):
    return [happening for happening in happenings if happening[0] == "wake"]


def chaired(world, house, voter, group="north"):
    """The house comes to be chair by the voter's vote alone; all letters but the two are lost."""
    played(world, ("wake", house, group))
    hand_to(world, voter, "ask")
    hand_to(world, house, "vote")
    return world


def two_chairs(old="ada", new="bea"):
    """Two chairs stand: the old one in term 1, the new one in term 2."""
    world = lose_all(woken(trio(), old, "north"))
    voter = next(house for house in THREE if house not in (old, new))
    return lose_all(chaired(world, new, voter))


class Calm(unittest.TestCase):

    def test_a_round_without_letters(self):
        world = apart()
        self.assertEqual(calm(world, 1), [TIME, ("wake", "ada", "east"), ("wake", "bea", "west")])
        self.assertEqual(world.time(), 450)
        self.assertEqual(world.chairs(), [("east", 1, "ada"), ("west", 1, "bea")])

    def test_all_letters_of_a_round(self):
        world, other = trio(), trio()
        done = calm(world, 1)
        self.assertIsInstance(done, list)
        played(other, TIME, ("wake", "ada", "north"))
        many = 0
        while other.letters():
            other.happen(HAND)
            many += 1
        # Two asks, two votes, adds and gots until all have all.
        self.assertGreater(many, 6)
        self.assertEqual(done, [TIME, ("wake", "ada", "north")] + [HAND] * many)
        self.assertEqual(state_of(world), state_of(other))

    def test_letters_that_were_under_way_come_first(self):
        world = played(trio(), ("wake", "bea", "north"))
        self.assertEqual(brief(world.letters()), [("ask", "ada"), ("ask", "cid")])
        done = calm(world, 1)
        # No chair stands as the round begins; bea's asks are of term 1, as ada's are, and come first.
        self.assertEqual(wakes(done), [("wake", "ada", "north")])
        self.assertEqual(world.chairs(), [("north", 1, "bea")])

    def test_rounds_one_behind_the_other(self):
        world, other = trio(), trio()
        done = calm(world, 4)
        parts = [calm(other, 1), calm(other, 2), calm(other, 1)]
        self.assertEqual(done, parts[0] + parts[1] + parts[2])
        self.assertEqual(done.count(TIME), 4)
        self.assertEqual(world.time(), 1200)
        self.assertEqual(state_of(world), state_of(other))

    def test_sixty_rounds(self):
        world = apart()
        self.assertEqual(calm(world, 60).count(TIME), 60)
        self.assertEqual(world.time(), 200 + 60 * 250)

    def test_by_the_groups_names(self):
        groups = [("west", ("ada",), [("m", "")]), ("east", ("bea",), [("", "d")]), ("north", ("ada",), [("d", "m")])]
        world = World((groups, slacks_of(("ada", "bea")), 200))
        self.assertEqual(
            wakes(calm(world, 1)), [("wake", "bea", "east"), ("wake", "ada", "north"), ("wake", "ada", "west")],
        )

    def test_a_standing_chair_is_woken(self):
        for house in THREE:
            world = woken(trio(), house, "north")
            self.assertEqual(wakes(calm(world, 3)), [("wake", house, "north")] * 3)

    def test_of_two_chairs_the_one_of_the_greatest_term(self):
        for old, new in (("ada", "bea"), ("bea", "ada"), ("cid", "ada"), ("ada", "cid")):
            world = two_chairs(old, new)
            self.assertEqual(world.chairs(), [("north", 1, old), ("north", 2, new)])
            self.assertEqual(wakes(calm(world, 1)), [("wake", new, "north")])
            self.assertEqual(world.chairs(), [("north", 2, new)])

    def test_a_fallen_chair_is_none(self):
        world = played(two_chairs("cid", "ada"), ("fall", "ada"))
        self.assertEqual(wakes(calm(world, 1)), [("wake", "cid", "north")])

    def test_a_chair_alone_though_another_house_has_more(self):
        # bea has an entry of a later term; but while some chair stands, no other house is woken.
        world = played(two_chairs("ada", "bea"), ("fall", "bea"), ("rise", "bea"))
        self.assertEqual(wakes(calm(world, 1)), [("wake", "ada", "north")])
        self.assertEqual(world.chairs(), [])
        self.assertEqual(wakes(calm(world, 1)), [("wake", "bea", "north")])

    def test_without_a_chair_the_first_by_name_of_several(self):
        self.assertEqual(wakes(calm(trio(), 1)), [("wake", "ada", "north")])
        self.assertEqual(wakes(calm(played(trio(), ("fall", "ada")), 1)), [("wake", "bea", "north")])

    def test_without_a_chair_the_last_entry_of_the_greatest_place(self):
        world = played(woken(trio(), "ada", "north"), ("cut", "ada", "m"))
        hand_to(world, "cid", "add")
        played(lose_all(world), ("fall", "ada"))
        self.assertEqual([len(world.seat_log(house, "north")) for house in THREE], [3, 2, 3])
        self.assertEqual(wakes(calm(world, 1)), [("wake", "cid", "north")])

    def test_the_term_goes_ahead_of_the_place(self):
        world = woken(trio(), "ada", "north")
        played(world, ("cut", "ada", "m"), ("cut", "ada", "t"))
        chaired(lose_all(world), "bea", "cid")
        hand_to(world, "cid", "add")
        played(lose_all(world), ("fall", "bea"), ("fall", "ada"), ("rise", "ada"))
        last = [(world.seat_log(house, "north")[-1][0], len(world.seat_log(house, "north"))) for house in ("ada", "cid")]
        self.assertEqual(last, [(1, 4), (2, 3)])
        self.assertEqual(wakes(calm(world, 1)), [("wake", "cid", "north")])

    def outsider(self):
        """zoe has a Seat by an ask, but its own log doesn't name it."""
        world = lose_all(played(woken(trio(("zoe",)), "ada", "north"), ("seat", "ada", "north", "zoe")))
        played(world, ("fall", "ada"), ("rise", "ada"), ("wake", "ada", "north"))
        hand_to(world, "zoe", "ask")
        lose_all(world)
        self.assertEqual(world.names("zoe", "north"), THREE)
        return world

    def test_only_of_those_that_stand_in_the_names_of_their_own_seat(self):
        world = played(self.outsider(), *[("fall", house) for house in THREE])
        self.assertEqual(world.standing(), ["zoe"])
        self.assertEqual(calm(world, 2), [TIME, TIME])
        world = played(self.outsider(), ("fall", "ada"), ("fall", "bea"))
        self.assertEqual(wakes(calm(world, 1)), [("wake", "cid", "north")])

    def test_a_spare_without_a_seat_is_not_woken(self):
        world = played(trio(("aaa",)), *[("fall", house) for house in THREE])
        self.assertEqual(calm(world, 1), [TIME])

    def test_where_no_house_of_a_group_stands(self):
        world = played(apart(), ("fall", "ada"))
        self.assertEqual(calm(world, 2), [TIME, ("wake", "bea", "west")] * 2)

    def test_letters_to_fallen_houses_are_handed_too(self):
        world = played(trio(), ("wake", "ada", "north"), *[("fall", house) for house in THREE])
        self.assertEqual(calm(world, 1), [TIME, HAND, HAND])
        self.assertEqual(world.letters(), [])

    def test_at_most_3000_letters_in_a_round(self):
        world = trio()
        for number in range(1600):
            world.happen(("wake", "ada", "north"))
        self.assertEqual(len(world.letters()), 3200)
        done = calm(world, 1)
        self.assertEqual(done, [TIME, ("wake", "ada", "north")] + [HAND] * 3000)
        self.assertGreater(len(world.letters()), 200)
        done = calm(world, 1)
        self.assertEqual((done.count(HAND), len(world.letters()) > 0), (3000, True))
        done = calm(world, 1)
        self.assertLess(done.count(HAND), 3000)
        self.assertEqual(world.letters(), [])

    def test_just_3000_letters(self):
        world = trio()
        for number in range(1499):
            world.happen(("wake", "ada", "north"))
        # Fallen houses answer nothing: 2998 asks that were there and 2 of the waking.
        played(world, ("fall", "bea"), ("fall", "cid"))
        self.assertEqual(calm(world, 1).count(HAND), 3000)
        self.assertEqual(world.letters(), [])

    def test_nothing_but_these_happens(self):
        world = two_chairs()
        self.assertEqual(sorted({happening[0] for happening in calm(world, 5)}), ["hand", "time", "wake"])

    def test_played_again_on_a_world_alike(self):
        for seed in range(12):
            player = plays.Player(seed)
            player.play(150)
            world, other = player.world, plays.replayed(player.world.plan(), player.done)
            done = calm(world, 6)
            self.assertNotEqual(state_of(other), state_of(world))
            self.assertEqual(state_of(played(other, *done)), state_of(world))

    def test_as_the_point_says_round_by_round(self):
        for seed in range(30):
            player = plays.Player(seed + 100)
            player.play(200)
            other = plays.replayed(player.world.plan(), player.done)
            self.assertEqual(calm(player.world, 4), plays.calm(other, 4))
            self.assertEqual(state_of(player.world), state_of(other))

    def test_nothing_is_lost(self):
        world = played(woken(trio(), "ada", "north"), ("deal", "ada", "pay", PUT_B), ("time", 100))
        before = world.history(), world.papers(), world.seat_log("ada", "north")
        calm(world, 3)
        self.assertEqual(world.history()[:len(before[0])], before[0])
        self.assertEqual(world.seat_log("ada", "north")[:len(before[2])], before[2])
        self.assertEqual([paper for paper in before[1] if paper not in world.papers()], [])
        # It was under way as the calm began, and came to its end at the first round's 550, 20 ahead.
        self.assertEqual(world.history()[-1], ("told", 800, "pay", 570, "ada", 790))


class Settled(unittest.TestCase):

    def test_a_world_behind_a_calm(self):
        for world in (trio(), apart()):
            self.assertIs(settled(world), False)
            calm(world, 2)
            self.assertIs(settled(world), True)

    def test_asking_changes_nothing(self):
        world = played(trio(), ("wake", "ada", "north"))
        before = state_of(world)
        self.assertEqual([settled(world), settled(world)], [False, False])
        self.assertEqual(state_of(world), before)

    def test_a_group_without_a_chair(self):
        world = woken(apart(), "ada", "east")
        self.assertEqual((world.letters(), world.chairs()), ([], [("east", 1, "ada")]))
        self.assertFalse(settled(world))
        self.assertTrue(settled(woken(world, "bea", "west")))

    def test_a_chair_that_has_fallen(self):
        world = calmed(apart())
        self.assertFalse(settled(played(world, ("fall", "bea"))))
        self.assertFalse(settled(played(world, ("rise", "bea"))))
        self.assertTrue(settled(played(world, ("wake", "bea", "west"))))

    def test_a_letter_under_way(self):
        world = calmed(trio())
        # Its last is early already, so a waking puts no mark: there is nothing new but the letters.
        log = world.seat_log("ada", "north")
        played(world, ("wake", "ada", "north"))
        self.assertEqual((world.seat_log("ada", "north"), brief(world.letters())), (log, [("add", "bea"), ("add", "cid")]))
        self.assertFalse(settled(world))
        self.assertFalse(settled(played(world, ("lose", 0))))
        self.assertTrue(settled(played(world, ("lose", 0))))

    def test_a_chair_that_hasnt_kept_all_of_its_log(self):
        world = lose_all(played(calmed(trio()), ("cut", "ada", "m")))
        self.assertEqual(world.kept_place("ada", "north"), len(world.seat_log("ada", "north")) - 2)
        self.assertFalse(settled(world))
        self.assertTrue(settled(hand_all(played(world, ("wake", "ada", "north")))))

    def test_others_may_have_kept_less(self):
        world = played(calmed(trio()), ("cut", "ada", "m"))
        hand_to(world, "bea", "add")
        hand_to(world, "ada", "got")
        lose_all(world)
        self.assertLess(world.kept_place("cid", "north"), world.kept_place("ada", "north"))
        self.assertTrue(settled(world))

    def test_a_dealing_opened(self):
        groups = [("east", THREE, [("", "m")]), ("west", ("ada",), [("m", "")])]
        world = calmed(World((groups, slacks_of(THREE), 200)))
        # By the time the ready is kept, its key was given away: the dealing is opened and ready nowhere.
        played(world, ("deal", "ada", "pay", PUT_B), ("move", "ada", "trip", "", "west"))
        hand_all(world)
        east, west = world.ledger("ada", "east"), world.ledger("ada", "west")
        self.assertEqual((east.opened(), east.ready(), west.ready()), ([("pay", PUT_B)], [], []))
        self.assertEqual(([gift[0] for gift in east.given()], west.taken()), (["trip"], ["trip"]))
        self.assertEqual(world.kept_place("ada", "east"), len(world.seat_log("ada", "east")) - 1)
        self.assertFalse(settled(world))
        calm(world, 3)
        self.assertTrue(settled(world))

    def test_a_dealing_ready(self):
        world = played(calmed(apart()), ("deal", "ada", "pay", BOTH))
        hand_to(world, "bea", "note")
        while not world.ledger("ada", "east").chosen("pay"):
            hand_to(world, "ada", "note")
        lose_all(world)
        east, west = world.ledger("ada", "east"), world.ledger("bea", "west")
        self.assertEqual((east.opened(), east.ready(), west.opened()), ([], [], []))
        self.assertEqual([row[0] for row in west.ready()], ["pay"])
        self.assertFalse(settled(world))
        calm(world, 1)
        self.assertTrue(settled(world))

    def test_a_move_given_and_not_taken(self):
        world = lose_all(played(calmed(apart()), ("move", "ada", "trip", "", "west")))
        self.assertEqual([gift[0] for gift in world.ledger("ada", "east").given()], ["trip"])
        self.assertFalse(settled(world))
        calm(world, 1)
        self.assertEqual(world.ledger("bea", "west").taken(), ["trip"])
        self.assertTrue(settled(world))

    def test_only_the_chair_of_the_greatest_term_counts(self):
        world = calmed(trio())
        lose_all(played(world, ("cut", "ada", "m")))
        chaired(world, "bea", "cid")
        hand_to(world, "cid", "add")
        hand_to(world, "bea", "got")
        lose_all(world)
        self.assertEqual([row[1:] for row in world.chairs()], [(1, "ada"), (2, "bea")])
        self.assertLess(world.kept_place("ada", "north"), len(world.seat_log("ada", "north")) - 1)
        self.assertTrue(settled(world))
        lose_all(played(world, ("cut", "bea", "t")))
        self.assertFalse(settled(world))

    def test_what_an_older_chair_has_kept_doesnt_count(self):
        world = two_chairs("cid", "ada")
        self.assertEqual(world.kept_place("cid", "north"), len(world.seat_log("cid", "north")) - 1)
        self.assertLess(world.kept_place("ada", "north"), len(world.seat_log("ada", "north")) - 1)
        self.assertFalse(settled(world))

    def test_a_dealing_refused_and_a_chosen_one_dont_matter(self):
        world = calmed(apart())
        played(world, ("deal", "ada", "wish", (("b", "least", 9),)), ("deal", "ada", "pay", PUT_B))
        hand_all(world)
        self.assertEqual(world.ledger("ada", "east").refused(), ["wish"])
        self.assertTrue(settled(world))

    def test_as_the_point_says(self):
        kinds = set()
        for seed in range(60):
            player = plays.Player(seed + 300)
            for number in range(6):
                player.play(20)
                calm(player.world, 1 + number // 4)
                self.assertEqual(settled(player.world), plays.is_settled(player.world))
                kinds.add(settled(player.world))
        self.assertEqual(kinds, {True, False})


def calmed(world):
    calm(world, 2)
    return world


if __name__ == "__main__":
    unittest.main()
