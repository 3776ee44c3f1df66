"""Point 10: a seat's fields, log and seats, and its fall."""

import unittest

from farbooks.bench import handled, papers, pending, proposed, woken
from farbooks.seat import Seat
from tests.benches import (
    FIRST_OF_THREE, FOUR, GROUP, NONE, THREE, add, ask, chair, follower, got, runner, state_of, vote,
)


class Beginning(unittest.TestCase):

    def test_fields(self):
        seat = Seat("north", "bea", THREE)
        self.assertEqual(
            (seat.group, seat.house, seat.term, seat.vote, seat.part, seat.kept),
            ("north", "bea", 0, "", "follower", 0),
        )

    def test_log_and_names(self):
        seat = Seat("north", "bea", THREE)
        self.assertEqual(seat.entries(), [(0, ("seats", ("ada", "bea", "cid")))])
        self.assertEqual(seat.names(), ("ada", "bea", "cid"))
        self.assertIsInstance(seat.names(), tuple)
        self.assertEqual((pending(seat), papers(seat)), ([], []))

    def test_a_house_that_is_none_of_the_names(self):
        seat = Seat("north", "zoe", ("ada",))
        self.assertEqual((seat.house, seat.names()), ("zoe", ("ada",)))


class Names(unittest.TestCase):

    def test_behind_a_seats_command_put(self):
        seat = chair()
        handled(seat, got("bea", "ada", 1, True, 1))
        self.assertTrue(proposed(seat, ("seats", FOUR)))
        self.assertEqual(seat.names(), FOUR)
        proposed(seat, ("mark", 7))
        self.assertEqual(seat.names(), FOUR)

    def test_behind_a_seats_command_taken_from_an_add(self):
        seat = follower(term=1, entries=[(1, NONE), (1, ("seats", FOUR)), (1, ("mark", 3))])
        self.assertEqual((seat.names(), seat.kept), (FOUR, 0))
        handled(seat, add("bea", "ada", 1, 3, 1, [(1, ("seats", ("ada", "bea")))], 0))
        self.assertEqual(seat.names(), ("ada", "bea"))

    def test_behind_seats_commands_dropped(self):
        seat = follower(term=1, entries=[(1, NONE), (1, ("seats", FOUR)), (1, ("seats", ("ada", "bea", "dot")))])
        handled(seat, add("bea", "ada", 2, 2, 1, [(2, NONE)], 0))
        self.assertEqual(seat.names(), FOUR)
        handled(seat, add("bea", "ada", 3, 1, 1, [(3, NONE)], 0))
        self.assertEqual(seat.names(), THREE)
        self.assertEqual(seat.entries(), [FIRST_OF_THREE, (1, NONE), (3, NONE)])

    def test_a_seats_command_kept_stays_where_others_are_dropped(self):
        seat = follower(term=1, entries=[(1, ("seats", FOUR)), (1, ("mark", 3))], kept=1)
        handled(seat, add("bea", "ada", 2, 1, 1, [(2, NONE)], 0))
        self.assertEqual(seat.names(), FOUR)


class Fall(unittest.TestCase):

    def test_of_a_follower(self):
        seat = follower(term=3, entries=[(1, NONE), (3, NONE)], kept=2)
        handled(seat, ask("cid", "ada", 4, 9, 4))
        before = state_of(seat)
        self.assertEqual(before[2:6], (4, "cid", "follower", 2))
        seat.fall()
        self.assertEqual(state_of(seat), before[:5] + (0,) + before[6:])

    def test_a_follower_that_fell_votes_for_no_second_one(self):
        seat = follower()
        handled(seat, ask("cid", "ada", 4, 0, 0))
        seat.fall()
        self.assertEqual(handled(seat, ask("bea", "ada", 4, 0, 0)), [vote("ada", "bea", 4, False)])
        self.assertEqual(handled(seat, ask("cid", "ada", 4, 0, 0)), [vote("ada", "cid", 4, True)])

    def test_of_a_runner(self):
        seat = runner()
        seat.fall()
        self.assertEqual((seat.term, seat.vote, seat.part, seat.kept), (1, "ada", "follower", 0))
        self.assertEqual(handled(seat, vote("bea", "ada", 1, True)), [])
        self.assertEqual((seat.part, papers(seat)), ("follower", []))

    def test_votes_are_forgotten(self):
        seat = runner(names=FOUR)
        handled(seat, vote("bea", "ada", 1, True))
        seat.fall()
        woken(seat)
        self.assertEqual(handled(seat, vote("cid", "ada", 2, True)), [])
        self.assertEqual(seat.part, "runner")
        self.assertNotEqual(handled(seat, vote("dot", "ada", 2, True)), [])
        self.assertEqual(seat.part, "chair")

    def test_of_a_chair(self):
        seat = chair()
        handled(seat, got("bea", "ada", 1, True, 1))
        proposed(seat, ("mark", 5))
        self.assertEqual((seat.part, seat.kept), ("chair", 1))
        log = seat.entries()
        seat.fall()
        self.assertEqual((seat.term, seat.vote, seat.part, seat.kept), (1, "ada", "follower", 0))
        self.assertEqual((seat.entries(), seat.names()), (log, THREE))
        self.assertFalse(proposed(seat, ("mark", 6)))
        self.assertEqual(handled(seat, got("cid", "ada", 1, True, 2)), [])
        self.assertEqual((seat.kept, seat.entries()), (0, log))

    def test_what_a_chair_was_told_is_forgotten(self):
        seat = chair()
        handled(seat, got("bea", "ada", 1, True, 1))
        handled(seat, got("cid", "ada", 1, False, 1))
        proposed(seat, ("mark", 5))
        seat.fall()
        chair(seat=seat)
        self.assertEqual((seat.term, seat.kept), (2, 0))
        self.assertEqual(woken(seat), [add("ada", to, 2, 2, 1, [(2, NONE)], 0) for to in ("bea", "cid")])

    def test_papers_outlast_it(self):
        seat = chair()
        handled(seat, got("bea", "ada", 1, True, 1))
        before = papers(seat)
        self.assertEqual([row[0] for row in before], ["chair", "kept"])
        seat.fall()
        self.assertEqual(papers(seat), before)
        chair(seat=seat)
        self.assertEqual(papers(seat)[:2], before)
        self.assertEqual(papers(seat)[2:], [("chair", GROUP, 2, "ada", ("ada", "cid"), THREE)])

    def test_twice(self):
        seat = chair()
        seat.fall()
        before = state_of(seat)
        seat.fall()
        self.assertEqual(state_of(seat), before)


if __name__ == "__main__":
    unittest.main()
