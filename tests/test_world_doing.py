"""Point 18: what houses do behind a letter, a waking and a proposal, in which order, and what a fall leaves."""

import unittest

from farbooks.world import World
from tests.worlds import (
    ALL, BOTH, PUT_B, PUT_X, THREE, alone, apart, brief, commands_of, hand_all, hand_to, lose_all, pair, played,
    slacks_of, trio, woken,
)

OTHERS = (("c", "put", 1), ("y", "put", 2))


def note(group, sender, to, *words):
    return ("note", group, sender, to, tuple(words))


class WhollyInOneHouse(unittest.TestCase):

    def setUp(self):
        self.world = pair()
        for group in ("west", "east"):
            woken(self.world, "ada", group)

    def test_a_dealing_over_two_groups(self):
        played(self.world, ("deal", "ada", "pay", BOTH))
        self.assertEqual(self.world.letters(), [
            note("east", "ada", "zoe", "want", "pay", BOTH, "east"),
            note("east", "ada", "zoe", "answer", "pay", "east", 190, ("b",)),
            note("west", "ada", "zoe", "answer", "pay", "west", 190, ("x",)),
            note("east", "ada", "zoe", "over", "pay", 220),
        ])
        self.assertEqual(commands_of(self.world, "ada", "east")[2:], [
            ("open", "pay", BOTH), ("ready", "pay", BOTH[:1], 190), ("choose", "pay", 220), ("over", "pay", 220),
        ])
        self.assertEqual(commands_of(self.world, "ada", "west")[2:], [
            ("ready", "pay", BOTH[1:], 190), ("over", "pay", 220),
        ])
        self.assertEqual(self.world.ledger("ada", "east").value("b"), 5)
        self.assertEqual(self.world.ledger("ada", "west").value("x"), 2)

    def test_notes_go_to_every_other_house_by_names(self):
        world = pair(spares=("zoe", "bea", "kim"))
        for group in ("east", "west"):
            woken(world, "ada", group)
        played(world, ("deal", "ada", "pay", PUT_B))
        self.assertEqual(brief(world.letters()), [
            (word, to) for word in ("want", "answer", "over") for to in ("bea", "kim", "zoe")
        ])

    def test_a_move_is_given_and_taken(self):
        played(self.world, ("deal", "ada", "pay", BOTH))
        lose_all(self.world)
        played(self.world, ("move", "ada", "trip", "m", "east"))
        self.assertEqual(self.world.letters(), [note("west", "ada", "zoe", "carry", "trip", "m", "", 221, (("x", 220, 2),), "east")])
        self.assertEqual(commands_of(self.world, "ada", "east")[-1], ("take", "trip", "m", "", 221, (("x", 220, 2),)))
        self.assertEqual(self.world.ledger("ada", "east").owned(), [("", "m"), ("m", "")])
        self.assertEqual(self.world.ledger("ada", "west").owned(), [])

    def test_a_dealing_that_is_refused(self):
        played(self.world, ("deal", "ada", "pay", (("b", "put", 5), ("x", "least", 1))))
        self.assertEqual(self.world.letters()[2:], [
            note("west", "ada", "zoe", "answer", "pay", "west", 0, ()), note("east", "ada", "zoe", "over", "pay", 0),
        ])
        self.assertEqual(self.world.ledger("ada", "east").ended("pay"), 0)
        self.assertEqual(self.world.ledger("ada", "west").refused(), ["pay"])

    def test_kept_entries_are_applied_one_within_the_other_behind_a_fall(self):
        world = alone(spares=("zoe",))
        woken(world, "ada", "north")
        played(world, ("deal", "ada", "pay", PUT_B))
        lose_all(world)
        before = world.seat_log("ada", "north")
        played(world, ("fall", "ada"), ("rise", "ada"), ("wake", "ada", "north"))
        self.assertEqual(world.letters(), [
            note("north", "ada", "zoe", "want", "pay", PUT_B, "north"),
            note("north", "ada", "zoe", "answer", "pay", "north", 190, ("b",)),
            note("north", "ada", "zoe", "over", "pay", 220),
        ])
        self.assertEqual(world.seat_log("ada", "north"), before + [
            (2, ("none",)), (2, ("ready", "pay", PUT_B, 190)), (2, ("choose", "pay", 220)), (2, ("over", "pay", 220)),
        ])
        self.assertEqual(world.kept_place("ada", "north"), 9)
        self.assertEqual(world.ledger("ada", "north").ended("pay"), 220)

    def test_many_kept_entries_at_once(self):
        world = alone(spares=("zoe",))
        woken(world, "ada", "north")
        names = [first + second for first in "abcd" for second in "abcdef"]
        for name in names:
            played(world, ("deal", "ada", name, (("b", "add", 1),)))
        lose_all(world)
        played(world, ("fall", "ada"), ("rise", "ada"), ("wake", "ada", "north"))
        self.assertEqual([letter[4][:2] for letter in world.letters()], [
            (word, name) for name in names for word in ("want", "answer", "over")
        ])
        self.assertEqual(world.ledger("ada", "north").value("b"), 24)


class OrderOfLetters(unittest.TestCase):

    def test_adds_at_the_end_behind_a_proposal(self):
        world = woken(trio(), "ada", "north")
        played(world, ("cut", "ada", "m"))
        log = world.seat_log("ada", "north")
        self.assertEqual(world.letters(), [
            ("add", "north", "ada", to, 1, 1, 1, tuple(log[2:]), 1) for to in ("bea", "cid")
        ])

    def test_a_got_that_lets_kept_grow(self):
        world = woken(trio(), "ada", "north")
        played(world, ("deal", "ada", "pay", PUT_B))
        hand_to(world, "bea", "add")
        hand_to(world, "ada", "got")
        self.assertEqual(brief(world.letters()), [
            ("add", "cid"), ("add", "bea"), ("add", "cid"), ("want", "bea"), ("want", "cid"), ("add", "bea"), ("add", "cid"),
        ])
        entries = [letter[7] for letter in world.letters() if letter[0] == "add"]
        opened, ready = (1, ("open", "pay", PUT_B)), (1, ("ready", "pay", PUT_B, 190))
        self.assertEqual(entries, [(opened,), (), (opened,), (ready,), (opened, ready)])
        self.assertEqual([letter[8] for letter in world.letters() if letter[0] == "add"], [1, 2, 2, 2, 2])

    def test_a_letter_handed_to_no_chair_tells_its_answer_alone(self):
        world = played(trio(), ("wake", "ada", "north"))
        self.assertEqual(brief(world.letters()), [("ask", "bea"), ("ask", "cid")])
        played(world, ("hand", 0))
        self.assertEqual(brief(world.letters()), [("ask", "cid"), ("vote", "ada")])
        played(world, ("hand", 1))
        self.assertEqual(brief(world.letters()), [("ask", "cid"), ("add", "bea"), ("add", "cid")])

    def test_what_a_follower_applies_lets_it_tell_no_note(self):
        groups = [("north", ("ada", "bea"), ALL), ("south", ("cid",), [])]
        world = World((groups, slacks_of(THREE), 200))
        told = self.told_by(world, "bea", ("wake", "ada", "north"))
        for happening in (
            ("deal", "ada", "pay", PUT_B), ("deal", "ada", "loan", (("c", "least", 1),)),
            ("move", "ada", "trip", "", "south"), ("wake", "ada", "north"),
        ):
            told += self.told_by(world, "bea", happening)
        ledger = world.ledger("bea", "north")
        self.assertEqual((ledger.ended("pay"), ledger.chosen("pay"), ledger.chosen("loan")), (200, 200, 0))
        self.assertEqual((ledger.refused(), [row[0] for row in ledger.given()]), (["loan"], ["trip"]))
        self.assertEqual(sorted(set(told)), ["got", "vote"])

    def told_by(self, world, house, happening):
        """The kinds of the letters that the house tells, till all letters are handed."""
        kinds = []
        played(world, happening)
        while world.letters():
            kinds.extend(letter[0] for letter in world.letters() if letter[2] == house)
            played(world, ("hand", 0))
        return kinds

    def test_a_woken_chair(self):
        world = woken(trio(), "ada", "north")
        played(world, ("deal", "ada", "pay", PUT_B))
        hand_to(world, "bea", "add")
        hand_to(world, "ada", "got")
        lose_all(world)
        played(world, ("wake", "ada", "north"))
        self.assertEqual(brief(world.letters()), [("want", "bea"), ("want", "cid"), ("add", "bea"), ("add", "cid")])
        pending = ((1, ("ready", "pay", PUT_B, 190)), (1, ("mark", 190)))
        self.assertEqual(world.letters()[2][7], pending)

    def two_groups_of_two(self):
        groups = [("west", ("ada", "bea"), [("m", "")]), ("east", ("ada", "bea"), [("", "m")])]
        return woken(World((groups, slacks_of(("ada", "bea")), 200)), "ada", "east")

    def groups_and_words(self, world):
        return [(letter[1], letter[4][0] if letter[0] == "note" else letter[0]) for letter in world.letters()]

    def test_a_woken_chair_and_another_seat_of_its_house(self):
        world = self.two_groups_of_two()
        hand_all(played(world, ("deal", "ada", "pay", BOTH)))
        woken(world, "ada", "west")
        played(world, ("wake", "ada", "east"))
        self.assertEqual(self.groups_and_words(world), [
            ("east", "want"), ("east", "answer"), ("east", "which"), ("east", "add"), ("west", "add"),
        ])
        self.assertEqual(world.letters()[4][7], ((1, ("ready", "pay", BOTH[1:], 200)),))

    def test_groups_whose_chair_it_is_by_names(self):
        world = woken(self.two_groups_of_two(), "ada", "west")
        played(world, ("deal", "ada", "pay", BOTH), ("hand", 0), ("hand", 0))
        self.assertEqual(self.groups_and_words(world), [
            ("east", "add"), ("east", "want"), ("east", "add"), ("west", "add"),
        ])
        self.assertEqual([letter[7] for letter in world.letters() if letter[0] == "add"], [
            (), ((1, ("ready", "pay", BOTH[:1], 200)),), ((1, ("ready", "pay", BOTH[1:], 200)),),
        ])

    def test_what_is_proposed_on_the_way_has_later_entries_applied_first(self):
        groups = [("east", ("ada", "bea"), [("", "m")]), ("west", ("ada",), [("m", "")])]
        world = World((groups, slacks_of(("ada", "bea")), 200))
        for group in ("east", "west"):
            woken(world, "ada", group)
        played(world, ("deal", "ada", "pay", BOTH), ("lose", 0), ("deal", "ada", "loan", OTHERS), ("hand", 0), ("hand", 0))
        self.assertEqual([letter[4] if letter[0] == "note" else letter[:4] for letter in world.letters()], [
            ("add", "east", "ada", "bea"),
            ("want", "pay", BOTH, "east"),
            ("want", "loan", OTHERS, "east"),
            ("answer", "loan", "west", 200, ("y",)),
            ("answer", "pay", "west", 201, ("x",)),
            ("add", "east", "ada", "bea"),
        ])
        self.assertEqual(commands_of(world, "ada", "east")[2:], [
            ("open", "pay", BOTH), ("open", "loan", OTHERS), ("ready", "pay", BOTH[:1], 200),
            ("ready", "loan", OTHERS[:1], 201),
        ])

    def test_letters_come_behind_those_that_are_there(self):
        world = woken(trio(), "ada", "north")
        played(world, ("cut", "ada", "m"))
        before = world.letters()
        played(world, ("cut", "ada", "x"))
        self.assertEqual(world.letters()[:2], before)
        self.assertEqual(brief(world.letters()[2:]), [("add", "bea"), ("add", "cid")])

    def test_a_note_that_comes_is_heard_by_all_chairs(self):
        world = apart()
        for house, group in (("ada", "east"), ("bea", "west")):
            woken(world, house, group)
        played(world, ("deal", "ada", "pay", BOTH))
        self.assertEqual(brief(world.letters()), [("want", "bea"), ("answer", "bea")])
        played(world, ("hand", 0))
        self.assertEqual(brief(world.letters()), [("answer", "bea"), ("answer", "ada")])
        self.assertEqual(world.ledger("bea", "west").ready(), [("pay", 190, BOTH[1:])])
        played(world, ("hand", 1))
        self.assertEqual(brief(world.letters()), [("answer", "bea"), ("over", "bea")])
        self.assertEqual(world.ledger("ada", "east").value("b"), 5)
        hand_all(world)
        self.assertEqual(world.ledger("bea", "west").value("x"), 2)

    def test_a_note_is_heard_by_no_follower(self):
        world = apart()
        woken(world, "ada", "east")
        played(world, ("deal", "ada", "pay", BOTH))
        hand_all(world)
        self.assertEqual(commands_of(world, "bea", "west"), [("seats", ("bea",))])


class Falls(unittest.TestCase):

    def test_what_comes_to_a_fallen_house_is_lost(self):
        world = played(trio(), ("wake", "ada", "north"), ("fall", "bea"))
        played(world, ("hand", 0))
        self.assertEqual(brief(world.letters()), [("ask", "cid")])
        played(world, ("rise", "bea"))
        self.assertEqual(world.seat_log("bea", "north"), [(0, ("seats", THREE))])
        self.assertEqual(brief(world.letters()), [("ask", "cid")])

    def test_letters_are_sent_to_fallen_houses_too(self):
        world = played(trio(), ("fall", "bea"), ("wake", "ada", "north"))
        self.assertEqual(brief(world.letters()), [("ask", "bea"), ("ask", "cid")])
        hand_all(world)
        played(world, ("deal", "ada", "pay", PUT_B))
        hand_to(world, "cid")
        lose_all_but_gots(world)
        played(world, ("hand", 0))
        self.assertEqual(brief(world.letters()).count(("want", "bea")), 1)

    def test_seats_stay_and_ledgers_begin_anew(self):
        world = woken(trio(), "ada", "north")
        hand_all(played(world, ("deal", "ada", "pay", PUT_B)))
        hand_all(played(world, ("cut", "ada", "m")))
        log = world.seat_log("ada", "north")
        self.assertEqual(world.kept_place("ada", "north"), len(log) - 1)
        played(world, ("fall", "ada"))
        self.assertEqual(world.seat_log("ada", "north"), log)
        self.assertEqual(world.kept_place("ada", "north"), 0)
        ledger = world.ledger("ada", "north")
        self.assertEqual((ledger.owned(), ledger.last(), ledger.value("b"), ledger.chosen("pay")), (ALL, 0, 0, None))
        played(world, ("rise", "ada"))
        self.assertEqual(world.kept_place("ada", "north"), 0)
        self.assertEqual(world.ledger("ada", "north").value("b"), 0)
        for number in range(2):
            woken(world, "ada", "north")
        self.assertEqual(world.seat_log("ada", "north")[:len(log)], log)
        ledger = world.ledger("ada", "north")
        self.assertEqual((ledger.owned(), ledger.value("b")), ([("", "m"), ("m", "")], 5))

    def test_a_chair_that_fell_is_chair_no_more(self):
        world = woken(trio(), "ada", "north")
        played(world, ("fall", "ada"), ("rise", "ada"), ("cut", "ada", "m"))
        self.assertEqual((world.chairs(), world.letters()), ([], []))

    def test_stewards_are_made_anew(self):
        # West never answers, so the dealing waits for the third waking.
        for falls, chosen in ((False, 0), (True, None)):
            world = woken(apart(), "ada", "east")
            played(world, ("deal", "ada", "pay", BOTH), ("wake", "ada", "east"), ("wake", "ada", "east"))
            self.assertIsNone(world.ledger("ada", "east").chosen("pay"))
            if falls:
                played(world, ("fall", "ada"), ("rise", "ada"), ("wake", "ada", "east"))
            played(world, ("wake", "ada", "east"))
            self.assertEqual(world.ledger("ada", "east").chosen("pay"), chosen)

    def test_answers_noted_are_forgotten(self):
        for falls, chosen in ((False, 220), (True, None)):
            world = woken(apart(), "ada", "east")
            played(world, ("wake", "bea", "west"), ("deal", "ada", "pay", BOTH), ("hand", 0))
            self.assertEqual(world.letters()[1][4], ("answer", "pay", "west", 190, ("x",)))
            if falls:
                played(world, ("fall", "ada"), ("rise", "ada"))
            played(world, ("hand", 1))
            self.assertEqual(world.ledger("ada", "east").chosen("pay"), chosen)

    def test_a_steward_outlasts_the_loss_of_the_chair(self):
        groups = [("east", ("ada", "bea"), [("", "m")]), ("west", ("cid",), [("m", "")])]
        world = World((groups, slacks_of(("ada", "bea", "cid")), 200))
        woken(world, "ada", "east")
        hand_all(played(world, ("deal", "ada", "pay", BOTH)))
        for number in range(2):
            woken(world, "ada", "east")
        woken(world, "bea", "east")
        self.assertEqual(world.chairs(), [("east", 2, "bea")])
        woken(world, "ada", "east")
        self.assertEqual(world.chairs(), [("east", 3, "ada")])
        self.assertIsNone(world.ledger("ada", "east").chosen("pay"))
        woken(world, "ada", "east")
        self.assertEqual(world.ledger("ada", "east").chosen("pay"), 0)

    def test_a_fallen_house_does_nothing(self):
        world = woken(alone(spares=("zoe",)), "ada", "north")
        played(world, ("fall", "ada"))
        before = (world.letters(), world.seat_log("ada", "north"), world.history())
        played(
            world, ("wake", "ada", "north"), ("deal", "ada", "pay", PUT_X), ("cut", "ada", "m"),
            ("read", "ada", 0, "a"), ("time", 500),
        )
        self.assertEqual((world.letters(), world.seat_log("ada", "north"), world.history()), before)


def lose_all_but_gots(world):
    while len([letter for letter in world.letters() if letter[0] != "got"]):
        place = [letter[0] != "got" for letter in world.letters()].index(True)
        world.happen(("lose", place))


if __name__ == "__main__":
    unittest.main()
