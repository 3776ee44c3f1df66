"""Point 14: commands proposed, and those that are pending."""

import unittest

from farbooks.bench import handled, papers, pending, proposed, woken
from tests.benches import FIVE, FOUR, GROUP, NONE, THREE, TWO, add, chair, follower, got, runner, state_of


def kept_chair(names=THREE, seat=None):
    """A chair whose none is kept, and known to be had by all."""
    seat = chair(names, seat=seat)
    for other in names[1:]:
        handled(seat, got(other, "ada", seat.term, True, len(seat.entries()) - 1))
    assert seat.kept == len(seat.entries()) - 1
    return seat


class Proposed(unittest.TestCase):

    def test_to_a_chair(self):
        seat = chair()
        self.assertIs(proposed(seat, ("mark", 5)), True)
        self.assertIs(proposed(seat, ("mark", 5)), True)
        self.assertEqual(seat.entries()[2:], [(1, ("mark", 5)), (1, ("mark", 5))])
        self.assertEqual((seat.kept, seat.part), (0, "chair"))

    def test_each_command_as_it_is(self):
        commands = [
            ("open", "d", (("a", "put", 1),)), ("ready", "d", (("a", "put", 1),), 3), ("choose", "d", 0),
            ("over", "d", 0), ("mark", 4), ("cut", "g"), ("join", "g"), ("give", "m", "", "south", 5),
            ("take", "n", "x", "", 6, (("x", 1, 1),)), ("none",),
        ]
        seat = chair()
        for command in commands:
            self.assertTrue(proposed(seat, command))
        self.assertEqual(pending(seat), [NONE] + commands)
        self.assertEqual([term for term, command in seat.entries()], [0] + [1] * 11)

    def test_to_no_chair(self):
        for make in (follower, runner):
            seat = make()
            before = state_of(seat)
            self.assertIs(proposed(seat, ("mark", 5)), False)
            self.assertIs(proposed(seat, ("seats", FOUR)), False)
            self.assertEqual(state_of(seat), before)

    def test_to_one_that_was_chair(self):
        seat = kept_chair()
        handled(seat, add("bea", "ada", 2, 1, 1, [(2, NONE)], 0))
        before = state_of(seat)
        self.assertIs(proposed(seat, ("mark", 5)), False)
        self.assertEqual(state_of(seat), before)

    def test_a_chair_alone_keeps_at_once(self):
        seat = chair(names=("ada",))
        proposed(seat, ("mark", 5))
        self.assertEqual((seat.kept, pending(seat)), (2, []))
        self.assertEqual(papers(seat)[-1], ("kept", GROUP, 2, 1, ("ada",), ("ada",)))


class Seats(unittest.TestCase):

    def refuses(self, seat, names):
        before = state_of(seat), papers(seat)
        self.assertIs(proposed(seat, ("seats", names)), False, names)
        self.assertEqual((state_of(seat), papers(seat)), before)

    def test_one_house_comes(self):
        seat = kept_chair()
        self.assertIs(proposed(seat, ("seats", FOUR)), True)
        self.assertEqual((seat.names(), seat.kept), (FOUR, 1))
        self.assertEqual(seat.entries()[-1], (1, ("seats", FOUR)))
        self.assertEqual([letter[3] for letter in woken(seat)], ["bea", "cid", "dot"])

    def test_one_house_goes(self):
        seat = kept_chair()
        self.assertIs(proposed(seat, ("seats", TWO)), True)
        self.assertEqual(seat.names(), TWO)
        self.assertEqual([letter[3] for letter in woken(seat)], ["bea"])

    def test_they_differ_by_no_and_by_two_houses(self):
        seat = kept_chair()
        for names in (THREE, FIVE, ("ada",), ("ada", "bea", "dot"), ("ada", "dot", "eve"), ()):
            self.refuses(seat, names)

    def test_they_leave_out_its_own_house(self):
        self.refuses(kept_chair(), ("bea", "cid"))
        self.refuses(kept_chair(TWO), ("bea",))
        self.refuses(chair(names=("ada",)), ())

    def test_while_the_last_ones_are_not_kept(self):
        seat = kept_chair()
        proposed(seat, ("seats", FOUR))
        for names in (FIVE, THREE, ("ada", "bea", "dot")):
            self.refuses(seat, names)
        handled(seat, got("bea", "ada", 1, True, 2))
        self.assertEqual(seat.kept, 1)
        self.refuses(seat, FIVE)
        handled(seat, got("cid", "ada", 1, True, 2))
        self.assertEqual(seat.kept, 2)
        self.assertIs(proposed(seat, ("seats", FIVE)), True)

    def test_while_the_entry_at_kept_is_of_another_term(self):
        seat = chair(seat=follower(term=1, entries=[(1, NONE)], kept=1))
        self.assertEqual(seat.kept, 1)
        self.refuses(seat, FOUR)
        handled(seat, got("bea", "ada", 2, True, 2))
        self.assertIs(proposed(seat, ("seats", FOUR)), True)

    def test_while_nothing_is_kept_but_the_first(self):
        self.refuses(chair(), FOUR)
        self.refuses(chair(), TWO)

    def test_the_last_ones_of_an_earlier_chair(self):
        seat = chair(names=FOUR, seat=follower(term=1, entries=[(1, ("seats", FOUR))]))
        handled(seat, got("bea", "ada", 2, True, 2))
        self.refuses(seat, FIVE)
        handled(seat, got("cid", "ada", 2, True, 2))
        self.assertEqual(seat.kept, 2)
        self.assertIs(proposed(seat, ("seats", FIVE)), True)

    def test_kept_by_the_seats_that_the_log_has_then(self):
        seat = kept_chair(TWO)
        proposed(seat, ("mark", 5))
        self.assertEqual(seat.kept, 1)
        self.assertTrue(proposed(seat, ("seats", ("ada",))))
        self.assertEqual(seat.kept, 3)
        self.assertEqual(papers(seat)[-1], ("kept", GROUP, 3, 1, ("ada",), ("ada",)))

    def test_not_kept_at_once_where_one_comes(self):
        seat = chair(names=("ada",))
        self.assertTrue(proposed(seat, ("seats", TWO)))
        self.assertEqual(seat.kept, 1)
        handled(seat, got("bea", "ada", 1, True, 2))
        self.assertEqual(seat.kept, 2)


class Pending(unittest.TestCase):

    def test_of_a_follower(self):
        self.assertEqual(pending(follower()), [])
        seat = follower(term=1, entries=[(1, NONE), (1, ("mark", 3)), (1, ("cut", "g"))], kept=1)
        self.assertEqual(pending(seat), [("mark", 3), ("cut", "g")])
        seat.fall()
        self.assertEqual(pending(seat), [NONE, ("mark", 3), ("cut", "g")])

    def test_of_a_chair(self):
        seat = chair()
        proposed(seat, ("mark", 3))
        self.assertEqual(pending(seat), [NONE, ("mark", 3)])
        handled(seat, got("cid", "ada", 1, True, 1))
        self.assertEqual(pending(seat), [("mark", 3)])
        handled(seat, got("cid", "ada", 1, True, 2))
        self.assertEqual(pending(seat), [])


if __name__ == "__main__":
    unittest.main()
