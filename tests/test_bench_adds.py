"""Point 13: a chair's adds, the gots that answer them, and its keeping."""

import itertools
import unittest

from farbooks.bench import handled, papers, proposed, woken
from farbooks.seat import Seat
from tests.benches import (
    FIRST_OF_THREE, FIVE, FOUR, GROUP, NONE, THREE, add, ask, chair, follower, got, runner, state_of, vote,
)

A1, B1, C1, D1 = [(1, ("mark", moment)) for moment in (10, 20, 30, 40)]
A2, B2, C2 = [(2, ("mark", moment)) for moment in (50, 60, 70)]
FIRST = FIRST_OF_THREE


class Added(unittest.TestCase):

    def test_of_a_lesser_term(self):
        seat = follower(term=5, entries=[A1])
        before = state_of(seat)
        self.assertEqual(handled(seat, add("bea", "ada", 4, 1, 1, [B1], 2)), [got("ada", "bea", 5, False, 0)])
        self.assertEqual(state_of(seat), before)

    def test_of_a_lesser_term_leaves_a_chair(self):
        seat = chair(seat=follower(term=5))
        self.assertEqual(handled(seat, add("bea", "ada", 5, 0, 0, [], 0)), [got("ada", "bea", 6, False, 0)])
        self.assertEqual(seat.part, "chair")

    def test_of_its_own_term(self):
        seat = runner()
        self.assertEqual(handled(seat, add("bea", "ada", 1, 0, 0, [A1], 0)), [got("ada", "bea", 1, True, 1)])
        self.assertEqual((seat.term, seat.vote, seat.part), (1, "ada", "follower"))
        self.assertEqual(seat.entries(), [FIRST, A1])

    def test_of_its_own_term_that_does_not_fit(self):
        seat = runner()
        self.assertEqual(handled(seat, add("bea", "ada", 1, 4, 1, [A1], 0)), [got("ada", "bea", 1, False, 1)])
        self.assertEqual(seat.part, "follower")

    def test_of_a_greater_term(self):
        for make in (follower, runner, chair):
            seat = make()
            self.assertEqual(handled(seat, add("bea", "ada", 4, 0, 0, [A2], 0)), [got("ada", "bea", 4, True, 1)])
            self.assertEqual((seat.term, seat.vote, seat.part), (4, "", "follower"))
            self.assertEqual(seat.entries(), [FIRST, A2])

    def test_at_a_place_that_the_log_has_not(self):
        seat = follower(term=1, entries=[A1, B1])
        before = state_of(seat)
        for place in (3, 4, 9):
            self.assertEqual(handled(seat, add("bea", "ada", 1, place, 1, [C1], 9)), [got("ada", "bea", 1, False, 3)])
        self.assertEqual(state_of(seat), before)

    def test_with_an_entry_of_another_term_there(self):
        seat = follower(term=1, entries=[A1, B1, C1])
        log = seat.entries()
        for place in (1, 2, 3):
            answer = handled(seat, add("bea", "ada", 2, place, 2, [A2], 9))
            self.assertEqual(answer, [got("ada", "bea", 2, False, place)])
        self.assertEqual((seat.entries(), seat.kept), (log, 0))

    def test_with_entries_that_it_has(self):
        seat = follower(term=1, entries=[A1, B1, C1])
        log = seat.entries()
        for place, entries in ((0, [A1]), (0, [A1, B1]), (1, [B1]), (0, []), (2, []), (2, [C1]), (0, [A1, B1, C1])):
            answer = handled(seat, add("bea", "ada", 1, place, min(place, 1), entries, 0))
            self.assertEqual(answer, [got("ada", "bea", 1, True, place + len(entries))])
            self.assertEqual(seat.entries(), log)

    def test_with_entries_that_it_has_in_part(self):
        seat = follower(term=1, entries=[A1, B1])
        self.assertEqual(handled(seat, add("bea", "ada", 1, 1, 1, [B1, C1, D1], 0)), [got("ada", "bea", 1, True, 4)])
        self.assertEqual(seat.entries(), [FIRST, A1, B1, C1, D1])

    def test_with_entries_that_it_has_with_another_term(self):
        seat = follower(term=1, entries=[A1, B1, C1, D1])
        self.assertEqual(handled(seat, add("bea", "ada", 2, 1, 1, [A2], 0)), [got("ada", "bea", 2, True, 2)])
        self.assertEqual(seat.entries(), [FIRST, A1, A2])

    def test_with_entries_that_differ_further_on(self):
        seat = follower(term=1, entries=[A1, B1, C1, D1])
        answer = handled(seat, add("bea", "ada", 2, 0, 0, [A1, B1, A2, B2, C2], 0))
        self.assertEqual(answer, [got("ada", "bea", 2, True, 5)])
        self.assertEqual(seat.entries(), [FIRST, A1, B1, A2, B2, C2])

    def test_a_letter_of_an_earlier_state_drops_nothing(self):
        seat = follower(term=2, entries=[A1, A2, B2], kept=3)
        self.assertEqual(handled(seat, add("bea", "ada", 2, 0, 0, [A1], 0)), [got("ada", "bea", 2, True, 1)])
        self.assertEqual((seat.entries(), seat.kept), ([FIRST, A1, A2, B2], 3))

    def test_in_each_order_and_twice(self):
        letters = [
            add("bea", "ada", 2, 0, 0, [A1], 0), add("bea", "ada", 2, 0, 0, [A1, A2], 1),
            add("bea", "ada", 2, 1, 1, [A2, B2], 2), add("bea", "ada", 2, 3, 2, [], 3),
        ]
        for order in itertools.permutations(letters):
            seat = follower(term=1, entries=[A1, B1])
            kept = 0
            for letter in order + order[::-1]:
                handled(seat, letter)
                self.assertGreaterEqual(seat.kept, kept)
                kept = seat.kept
            self.assertEqual((seat.entries(), seat.kept), ([FIRST, A1, A2, B2], 3))

    def test_a_house_that_is_none_of_the_seats(self):
        seat = Seat(GROUP, "zoe", THREE)
        self.assertEqual(handled(seat, add("ada", "zoe", 1, 0, 0, [A1], 1)), [got("zoe", "ada", 1, True, 1)])
        self.assertEqual((seat.entries(), seat.kept), ([FIRST, A1], 1))


class KeptByAdds(unittest.TestCase):

    def test_with_entries(self):
        for told, kept in ((0, 0), (1, 1), (2, 2), (3, 2), (9, 2)):
            seat = follower(term=1, entries=[A1, B1], kept=told)
            self.assertEqual(seat.kept, kept)

    def test_without_entries(self):
        for place, told, kept in ((3, 2, 2), (3, 9, 3), (1, 9, 1), (0, 9, 0), (2, 2, 2)):
            seat = follower(term=1, entries=[A1, B1, C1])
            handled(seat, add("bea", "ada", 1, place, min(place, 1), [], told))
            self.assertEqual(seat.kept, kept)

    def test_no_further_than_what_the_letter_told_of(self):
        seat = follower(term=1, entries=[A1, B1, C1])
        handled(seat, add("bea", "ada", 2, 0, 0, [A1], 3))
        self.assertEqual((seat.kept, len(seat.entries())), (1, 4))

    def test_it_never_falls(self):
        seat = follower(term=1, entries=[A1, B1], kept=2)
        handled(seat, add("bea", "ada", 1, 0, 0, [], 0))
        handled(seat, add("bea", "ada", 1, 0, 0, [A1], 1))
        handled(seat, add("bea", "ada", 2, 2, 1, [A2], 1))
        self.assertEqual(seat.kept, 2)

    def test_not_by_what_does_not_fit(self):
        seat = follower(term=1, entries=[A1, B1])
        handled(seat, add("bea", "ada", 1, 3, 1, [C1], 3))
        handled(seat, add("bea", "ada", 1, 2, 9, [C1], 3))
        handled(seat, add("bea", "ada", 0, 2, 1, [], 2))
        self.assertEqual(seat.kept, 0)


class Got(unittest.TestCase):

    def chair_with_marks(self, names=THREE):
        """A chair of term 2 whose log is FIRST, A1, none, A2, B2."""
        seat = chair(names, seat=follower(names=names, term=1, entries=[A1]))
        for entry in (A2, B2):
            proposed(seat, entry[1])
        return seat

    def add_to(self, to, place, kept=0):
        log = [FIRST, A1, (2, NONE), A2, B2]
        return add("ada", to, 2, place, log[place][0], log[place + 1:], kept)

    def test_adds_at_first(self):
        seat = self.chair_with_marks()
        self.assertEqual(woken(seat), [self.add_to("bea", 1), self.add_to("cid", 1)])

    def test_with_false(self):
        seat = self.chair_with_marks()
        for number, place in ((1, 0), (3, 2), (0, 0), (2, 1)):
            self.assertEqual(handled(seat, got("bea", "ada", 2, False, number)), [self.add_to("bea", place)])
            self.assertEqual(woken(seat), [self.add_to("bea", place), self.add_to("cid", 1)])

    def test_with_true_that_lets_kept_grow(self):
        seat = self.chair_with_marks()
        adds = [self.add_to("bea", 1, 3), self.add_to("cid", 3, 3)]
        self.assertEqual(handled(seat, got("cid", "ada", 2, True, 3)), adds)
        self.assertEqual((seat.kept, seat.part), (3, "chair"))

    def test_with_true_that_does_not(self):
        seat = self.chair_with_marks()
        handled(seat, got("cid", "ada", 2, True, 4))
        self.assertEqual(seat.kept, 4)
        for number in (4, 2):
            self.assertEqual(handled(seat, got("bea", "ada", 2, True, number)), [])
        self.assertEqual(woken(seat), [self.add_to("bea", 4, 4), self.add_to("cid", 4, 4)])

    def test_the_greatest_place_told_with_true_counts(self):
        seat = self.chair_with_marks(FIVE)
        handled(seat, got("bea", "ada", 2, True, 4))
        handled(seat, got("bea", "ada", 2, True, 1))
        self.assertEqual(woken(seat)[0][5], 4)
        self.assertEqual(handled(seat, got("bea", "ada", 2, False, 2))[0][5], 1)
        self.assertEqual(len(handled(seat, got("cid", "ada", 2, True, 4))), 4)
        self.assertEqual(seat.kept, 4)
        self.assertEqual(woken(seat)[0][5], 1)
        handled(seat, got("bea", "ada", 2, True, 1))
        self.assertEqual(woken(seat)[0][5], 4)

    def test_more_than_half_of_five(self):
        seat = self.chair_with_marks(FIVE)
        self.assertEqual(handled(seat, got("bea", "ada", 2, True, 4)), [])
        self.assertEqual(handled(seat, got("bea", "ada", 2, True, 4)), [])
        self.assertEqual(seat.kept, 0)
        handled(seat, got("eve", "ada", 2, True, 3))
        self.assertEqual(seat.kept, 3)
        handled(seat, got("cid", "ada", 2, True, 4))
        self.assertEqual(seat.kept, 4)

    def test_more_than_half_of_four(self):
        seat = self.chair_with_marks(FOUR)
        handled(seat, got("bea", "ada", 2, True, 4))
        self.assertEqual(seat.kept, 0)
        handled(seat, got("dot", "ada", 2, True, 4))
        self.assertEqual(seat.kept, 4)

    def test_only_by_an_entry_of_its_own_term(self):
        seat = self.chair_with_marks()
        for sender in ("bea", "cid"):
            self.assertEqual(handled(seat, got(sender, "ada", 2, True, 1)), [])
        self.assertEqual((seat.kept, [row[0] for row in papers(seat)]), (0, ["chair"]))
        handled(seat, got("bea", "ada", 2, True, 2))
        self.assertEqual(seat.kept, 2)

    def test_of_a_lesser_term(self):
        seat = self.chair_with_marks()
        before = state_of(seat)
        self.assertEqual(handled(seat, got("bea", "ada", 1, True, 4)), [])
        self.assertEqual(handled(seat, got("bea", "ada", 1, False, 1)), [])
        self.assertEqual(state_of(seat), before)
        self.assertEqual(woken(seat), [self.add_to("bea", 1), self.add_to("cid", 1)])

    def test_of_a_greater_term(self):
        for fits in (False, True):
            seat = self.chair_with_marks()
            self.assertEqual(handled(seat, got("bea", "ada", 3, fits, 0)), [])
            self.assertEqual((seat.term, seat.vote, seat.part, seat.kept), (3, "", "follower", 0))

    def test_to_a_follower_and_to_a_runner(self):
        for make, term in ((follower, 0), (runner, 1)):
            seat = make()
            before = state_of(seat)
            self.assertEqual(handled(seat, got("bea", "ada", term, True, 0)), [])
            self.assertEqual(handled(seat, got("bea", "ada", term, False, 0)), [])
            self.assertEqual(state_of(seat), before)

    def test_of_houses_that_are_none_of_the_seats(self):
        seat = self.chair_with_marks()
        for sender in ("yan", "zoe"):
            self.assertEqual(handled(seat, got(sender, "ada", 2, True, 4)), [])
            self.assertEqual(handled(seat, got(sender, "ada", 2, False, 2)), [])
        self.assertEqual(seat.kept, 0)

    def test_what_such_a_house_told_holds_when_it_comes(self):
        seat = chair(names=("ada",))
        handled(seat, got("bea", "ada", 1, True, 1))
        handled(seat, got("cid", "ada", 1, False, 1))
        self.assertTrue(proposed(seat, ("seats", ("ada", "bea"))))
        self.assertEqual(seat.kept, 1)
        self.assertEqual(woken(seat)[0][:7], ("add", GROUP, "ada", "bea", 1, 1, 1))
        handled(seat, got("bea", "ada", 1, True, 2))
        self.assertTrue(proposed(seat, ("seats", ("ada", "bea", "cid"))))
        self.assertEqual([letter[5] for letter in woken(seat)], [2, 0])

    def test_it_holds_while_the_house_is_gone(self):
        seat = chair()
        handled(seat, got("bea", "ada", 1, True, 1))
        handled(seat, got("cid", "ada", 1, True, 1))
        proposed(seat, ("seats", ("ada", "bea")))
        handled(seat, got("cid", "ada", 1, True, 2))
        self.assertEqual(seat.kept, 1)
        handled(seat, got("bea", "ada", 1, True, 2))
        self.assertEqual(seat.kept, 2)
        self.assertTrue(proposed(seat, ("seats", THREE)))
        self.assertEqual([letter[5] for letter in woken(seat)], [2, 2])

    def test_its_own_house_has_all_of_its_log(self):
        seat = chair(names=("ada", "bea"))
        proposed(seat, ("mark", 3))
        handled(seat, got("bea", "ada", 1, True, 1))
        self.assertEqual(seat.kept, 1)
        handled(seat, got("bea", "ada", 1, True, 2))
        self.assertEqual(seat.kept, 2)


class BetweenSeats(unittest.TestCase):

    def test_a_follower_far_behind_comes_to_have_all(self):
        ada = chair(seat=follower(term=3, entries=[A1, B1, A2, B2]))
        bea = follower(house="bea", term=1, entries=[A1, B1, C1])
        letters = [letter for letter in woken(ada) if letter[3] == "bea"]
        many = 0
        while letters:
            many += 1
            letter = letters.pop(0)
            letters.extend(
                told for told in handled(bea if letter[3] == "bea" else ada, letter) if told[3] in ("ada", "bea")
            )
        self.assertEqual((bea.entries(), bea.kept), (ada.entries(), 5))
        self.assertEqual((ada.kept, bea.term, many), (5, 4, 8))

    def test_votes_go_to_the_one_with_all_that_was_kept(self):
        ada = chair()
        bea = follower(house="bea")
        handled(ada, handled(bea, woken(ada)[0])[0])
        self.assertEqual(ada.kept, 1)
        cid = runner(house="cid")
        woken(cid)
        answers = [handled(bea, ask("cid", "bea", 2, 0, 0)), handled(ada, ask("cid", "ada", 2, 0, 0))]
        self.assertEqual(answers, [[vote("bea", "cid", 2, False)], [vote("ada", "cid", 2, False)]])


if __name__ == "__main__":
    unittest.main()
