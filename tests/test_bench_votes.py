"""Points 11 and 12: wakings, asks and votes."""

import unittest

from farbooks.bench import handled, papers, proposed, woken
from farbooks.seat import Seat
from tests.benches import (
    FIRST_OF_THREE, FIVE, FOUR, GROUP, NONE, THREE, TWO, add, ask, chair, follower, got, runner, state_of, vote,
)


class Waking(unittest.TestCase):

    def test_of_a_follower(self):
        seat = follower(house="bea", term=3, entries=[(1, NONE), (2, NONE)])
        self.assertEqual(woken(seat), [ask("bea", "ada", 4, 2, 2), ask("bea", "cid", 4, 2, 2)])
        self.assertEqual((seat.term, seat.vote, seat.part, seat.kept), (4, "bea", "runner", 0))
        self.assertEqual(len(seat.entries()), 3)

    def test_of_a_follower_that_voted_for_another(self):
        seat = Seat(GROUP, "ada", THREE)
        handled(seat, ask("cid", "ada", 6, 0, 0))
        self.assertEqual(woken(seat), [ask("ada", "bea", 7, 0, 0), ask("ada", "cid", 7, 0, 0)])
        self.assertEqual((seat.term, seat.vote, seat.part), (7, "ada", "runner"))

    def test_of_a_runner(self):
        seat = runner()
        self.assertEqual(woken(seat), [ask("ada", "bea", 2, 0, 0), ask("ada", "cid", 2, 0, 0)])
        self.assertEqual((seat.term, seat.vote, seat.part), (2, "ada", "runner"))

    def test_a_runner_s_votes_are_of_one_term(self):
        seat = runner(names=FOUR)
        handled(seat, vote("bea", "ada", 1, True))
        woken(seat)
        self.assertEqual(handled(seat, vote("cid", "ada", 2, True)), [])
        self.assertEqual(seat.part, "runner")

    def test_of_a_chair(self):
        seat = chair()
        before = state_of(seat)
        adds = [add("ada", to, 1, 0, 0, [(1, NONE)], 0) for to in ("bea", "cid")]
        self.assertEqual(woken(seat), adds)
        self.assertEqual(woken(seat), adds)
        self.assertEqual(state_of(seat), before)

    def test_of_a_house_that_is_none_of_the_seats(self):
        seat = Seat(GROUP, "zoe", THREE)
        before = state_of(seat)
        self.assertEqual(woken(seat), [])
        self.assertEqual(state_of(seat), before)

    def test_by_the_seats_of_the_log_kept_or_not(self):
        seat = follower(house="dot", term=1, entries=[(1, ("seats", FOUR))])
        self.assertEqual(woken(seat), [ask("dot", to, 2, 1, 1) for to in THREE])
        seat = follower(term=1, entries=[(1, ("seats", ("bea", "cid")))])
        self.assertEqual(woken(seat), [])
        self.assertEqual((seat.term, seat.part), (1, "follower"))

    def test_of_one_that_alone_is_more_than_half(self):
        seat = Seat(GROUP, "ada", ("ada",))
        self.assertEqual(woken(seat), [])
        self.assertEqual((seat.term, seat.vote, seat.part, seat.kept), (1, "ada", "chair", 1))
        self.assertEqual(seat.entries(), [(0, ("seats", ("ada",))), (1, NONE)])
        self.assertEqual(papers(seat), [
            ("chair", GROUP, 1, "ada", ("ada",), ("ada",)), ("kept", GROUP, 1, 1, ("ada",), ("ada",)),
        ])

    def test_one_of_two_is_not_more_than_half(self):
        seat = Seat(GROUP, "ada", TWO)
        self.assertEqual(woken(seat), [ask("ada", "bea", 1, 0, 0)])
        self.assertEqual(seat.part, "runner")


class Asked(unittest.TestCase):

    def test_of_a_lesser_term(self):
        seat = follower(term=5)
        before = state_of(seat)
        self.assertEqual(handled(seat, ask("bea", "ada", 4, 9, 9)), [vote("ada", "bea", 5, False)])
        self.assertEqual(state_of(seat), before)

    def test_of_its_own_term(self):
        seat = follower(term=5)
        self.assertEqual(handled(seat, ask("bea", "ada", 5, 0, 0)), [vote("ada", "bea", 5, True)])
        self.assertEqual((seat.term, seat.vote, seat.part), (5, "bea", "follower"))

    def test_of_a_greater_term(self):
        for make in (follower, runner, chair):
            seat = make()
            self.assertEqual(handled(seat, ask("bea", "ada", 7, 9, 6)), [vote("ada", "bea", 7, True)])
            self.assertEqual((seat.term, seat.vote, seat.part), (7, "bea", "follower"))

    def test_of_a_greater_term_and_not_granted(self):
        seat = chair()
        self.assertEqual(handled(seat, ask("bea", "ada", 7, 9, 0)), [vote("ada", "bea", 7, False)])
        self.assertEqual((seat.term, seat.vote, seat.part), (7, "", "follower"))
        self.assertEqual(handled(seat, ask("cid", "ada", 7, 1, 1)), [vote("ada", "cid", 7, True)])

    def test_a_second_time_in_one_term(self):
        seat = follower()
        handled(seat, ask("bea", "ada", 1, 0, 0))
        self.assertEqual(handled(seat, ask("bea", "ada", 1, 0, 0)), [vote("ada", "bea", 1, True)])
        self.assertEqual(handled(seat, ask("cid", "ada", 1, 5, 1)), [vote("ada", "cid", 1, False)])
        self.assertEqual(seat.vote, "bea")
        self.assertEqual(handled(seat, ask("cid", "ada", 2, 0, 0)), [vote("ada", "cid", 2, True)])
        self.assertEqual((seat.term, seat.vote), (2, "cid"))

    def test_a_runner_and_a_chair_in_their_own_term(self):
        for make in (runner, chair):
            seat = make()
            self.assertEqual(handled(seat, ask("bea", "ada", 1, 9, 1)), [vote("ada", "bea", 1, False)])
            self.assertEqual((seat.vote, seat.part), ("ada", make.__name__))

    def test_last_entries(self):
        for place, last_term, granted in (
            (2, 3, True), (3, 3, True), (1, 3, False), (0, 4, True), (9, 2, False), (2, 2, False), (2, 4, True),
        ):
            seat = follower(term=3, entries=[(1, NONE), (3, NONE)])
            answer = handled(seat, ask("bea", "ada", 4, place, last_term))
            self.assertEqual(answer, [vote("ada", "bea", 4, granted)], (place, last_term))
            self.assertEqual(seat.vote, "bea" if granted else "")

    def test_one_that_is_none_of_the_seats_votes_too(self):
        seat = Seat(GROUP, "zoe", THREE)
        self.assertEqual(handled(seat, ask("bea", "zoe", 1, 0, 0)), [vote("zoe", "bea", 1, True)])


class Voted(unittest.TestCase):

    def test_granted_by_more_than_half(self):
        seat = follower(house="bea", term=3, entries=[(1, NONE), (3, ("mark", 8))], kept=1)
        woken(seat)
        adds = [add("bea", to, 4, 2, 3, [(4, NONE)], 1) for to in ("ada", "cid")]
        self.assertEqual(handled(seat, vote("cid", "bea", 4, True)), adds)
        self.assertEqual((seat.term, seat.vote, seat.part, seat.kept), (4, "bea", "chair", 1))
        self.assertEqual(seat.entries(), [FIRST_OF_THREE, (1, NONE), (3, ("mark", 8)), (4, NONE)])

    def test_half_is_not_enough(self):
        seat = runner(names=FOUR)
        self.assertEqual(handled(seat, vote("bea", "ada", 1, True)), [])
        self.assertEqual((seat.part, len(seat.entries())), ("runner", 1))
        self.assertEqual(len(handled(seat, vote("dot", "ada", 1, True))), 3)
        self.assertEqual(seat.part, "chair")

    def test_not_granted(self):
        seat = runner()
        for sender in ("bea", "cid"):
            self.assertEqual(handled(seat, vote(sender, "ada", 1, False)), [])
        self.assertEqual(seat.part, "runner")

    def test_of_a_lesser_term(self):
        seat = runner()
        woken(seat)
        self.assertEqual(handled(seat, vote("bea", "ada", 1, True)), [])
        self.assertEqual((seat.term, seat.part), (2, "runner"))

    def test_of_a_greater_term(self):
        for granted in (False, True):
            for make in (runner, chair):
                seat = make()
                self.assertEqual(handled(seat, vote("bea", "ada", 6, granted)), [])
                self.assertEqual((seat.term, seat.vote, seat.part), (6, "", "follower"))

    def test_twice_of_one_house(self):
        seat = runner(names=FIVE)
        for number in range(3):
            self.assertEqual(handled(seat, vote("bea", "ada", 1, True)), [])
        self.assertEqual(seat.part, "runner")
        handled(seat, vote("cid", "ada", 1, True))
        self.assertEqual(seat.part, "chair")

    def test_of_a_house_that_is_none_of_the_seats(self):
        seat = runner()
        self.assertEqual(handled(seat, vote("zoe", "ada", 1, True)), [])
        self.assertEqual(handled(seat, vote("yan", "ada", 1, True)), [])
        self.assertEqual(seat.part, "runner")
        handled(seat, vote("cid", "ada", 1, True))
        self.assertEqual(papers(seat), [("chair", GROUP, 1, "ada", ("ada", "cid"), THREE)])

    def test_to_a_follower_and_to_a_chair(self):
        seat = follower(term=1)
        self.assertEqual(handled(seat, vote("bea", "ada", 1, True)), [])
        self.assertEqual(seat.part, "follower")
        seat = chair(names=FIVE)
        before = state_of(seat), papers(seat)
        self.assertEqual(handled(seat, vote("bea", "ada", 1, True)), [])
        self.assertEqual((state_of(seat), papers(seat)), before)

    def test_a_runner_made_a_follower_by_an_add(self):
        seat = runner()
        handled(seat, add("bea", "ada", 1, 0, 0, [(1, NONE)], 0))
        self.assertEqual(seat.part, "follower")
        self.assertEqual(handled(seat, vote("cid", "ada", 1, True)), [])
        self.assertEqual(seat.part, "follower")

    def test_a_chair_s_first_entry_isn_t_kept_by_its_votes(self):
        seat = chair()
        self.assertEqual((seat.kept, papers(seat)), (0, [("chair", GROUP, 1, "ada", ("ada", "cid"), THREE)]))

    def test_a_chair_again_in_a_later_term(self):
        seat = chair()
        handled(seat, got("bea", "ada", 1, True, 1))
        proposed(seat, ("mark", 4))
        handled(seat, ask("zoe", "ada", 2, 0, 0))
        chair(seat=seat)
        self.assertEqual((seat.term, seat.kept), (3, 1))
        self.assertEqual(woken(seat), [add("ada", to, 3, 2, 1, [(3, NONE)], 1) for to in ("bea", "cid")])


if __name__ == "__main__":
    unittest.main()
