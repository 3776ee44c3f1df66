"""Point 15: papers, and what they show of each group, over many orders of letters."""

import random
import unittest

from farbooks.bench import handled, papers, pending, proposed, woken
from farbooks.seat import Seat
from tests.benches import FIVE, FOUR, GROUP, NONE, THREE, chair, follower, got, runner, vote


class Papers(unittest.TestCase):

    def test_none_of_a_follower_and_of_a_runner(self):
        self.assertEqual(papers(follower(term=3, entries=[(1, NONE)], kept=1)), [])
        self.assertEqual(papers(runner()), [])

    def test_as_it_came_to_be_chair(self):
        seat = runner(names=FIVE, house="cid")
        for sender in ("eve", "zoe", "bea"):
            handled(seat, vote(sender, "cid", 1, True))
        handled(seat, vote("ada", "cid", 1, True))
        self.assertEqual(papers(seat), [("chair", GROUP, 1, "cid", ("bea", "cid", "eve"), FIVE)])

    def test_each_time_it_kept(self):
        seat = chair(names=FIVE)
        proposed(seat, ("mark", 5))
        for sender, number in (("zoe", 2), ("eve", 1), ("bea", 2), ("dot", 2), ("cid", 2)):
            handled(seat, got(sender, "ada", 1, True, number))
        self.assertEqual(papers(seat)[1:], [
            ("kept", GROUP, 1, 1, ("ada", "bea", "eve"), FIVE), ("kept", GROUP, 2, 1, ("ada", "bea", "dot"), FIVE),
        ])

    def test_those_who_have_more_are_among_them(self):
        seat = chair(names=FIVE)
        proposed(seat, ("mark", 5))
        handled(seat, got("eve", "ada", 1, True, 2))
        handled(seat, got("bea", "ada", 1, True, 1))
        self.assertEqual(papers(seat)[1:], [("kept", GROUP, 1, 1, ("ada", "bea", "eve"), FIVE)])

    def test_with_the_seats_as_they_are_then(self):
        seat = chair()
        handled(seat, got("bea", "ada", 1, True, 1))
        proposed(seat, ("seats", FOUR))
        handled(seat, got("bea", "ada", 1, True, 2))
        handled(seat, got("dot", "ada", 1, True, 2))
        self.assertEqual(papers(seat)[1:], [
            ("kept", GROUP, 1, 1, ("ada", "bea"), THREE), ("kept", GROUP, 2, 1, ("ada", "bea", "dot"), FOUR),
        ])

    def test_of_several_terms_behind_a_fall_too(self):
        seat = chair()
        handled(seat, got("bea", "ada", 1, True, 1))
        seat.fall()
        chair(seat=seat)
        handled(seat, got("cid", "ada", 2, True, 2))
        self.assertEqual(papers(seat), [
            ("chair", GROUP, 1, "ada", ("ada", "cid"), THREE), ("kept", GROUP, 1, 1, ("ada", "bea"), THREE),
            ("chair", GROUP, 2, "ada", ("ada", "cid"), THREE), ("kept", GROUP, 2, 2, ("ada", "cid"), THREE),
        ])

    def test_a_follower_s_kept_writes_none(self):
        seat = chair()
        handled(seat, got("bea", "ada", 1, True, 1))
        seat.fall()
        before = papers(seat)
        handled(seat, ("add", GROUP, "bea", "ada", 2, 1, 1, ((2, NONE),), 2))
        self.assertEqual((seat.kept, papers(seat)), (2, before))


class Group:
    """Houses of one group and the letters between them, which come by chance."""

    def __init__(self, test, seed):
        self.test = test
        self.rng = random.Random(seed)
        self.names = FIVE[:self.rng.randint(1, 5)]
        self.seats = {house: Seat(GROUP, house, self.names) for house in FIVE}
        self.letters = []
        self.kept = [(0, ("seats", self.names))]
        self.chairs = {}
        self.commands = 0

    def step(self):
        rng = self.rng
        kind = rng.choices(
            ("hand", "copy", "lose", "wake", "propose", "seats", "fall"), (60, 5, 5, 4, 15, 8, 1)
        )[0]
        chairs = [house for house in FIVE if self.seats[house].part == "chair"]
        seat = self.seats[rng.choice(chairs * 3 + list(FIVE))]
        if kind in ("hand", "copy", "lose"):
            self.letter(kind)
        elif kind == "wake":
            self.letters.extend(woken(seat))
        elif kind == "fall":
            seat.fall()
        else:
            self.propose(seat, kind)
        self.check()

    def letter(self, kind):
        if not self.letters:
            return
        place = self.rng.choice((0, self.rng.randrange(len(self.letters))))
        letter = self.letters[place]
        if kind != "copy":
            del self.letters[place]
        if kind != "lose":
            self.letters.extend(handled(self.seats[letter[3]], letter))

    def propose(self, seat, kind):
        self.commands += 1
        command = ("mark", self.commands)
        if kind == "seats":
            other = self.rng.choice(FIVE)
            command = ("seats", tuple(sorted({other} ^ set(seat.names()))))
        if proposed(seat, command) and self.rng.random() < 0.7:
            self.letters.extend(woken(seat))

    def check(self):
        for house, seat in self.seats.items():
            log = seat.entries()
            self.test.assertLess(seat.kept, len(log))
            self.test.assertEqual(pending(seat), [command for term, command in log[seat.kept + 1:]])
            if seat.kept >= len(self.kept):
                self.kept = log[:seat.kept + 1]
            self.test.assertEqual(log[:seat.kept + 1], self.kept[:seat.kept + 1])
            if seat.part == "chair":
                self.test.assertEqual(self.chairs.setdefault(seat.term, house), house)
        for house, seat in self.seats.items():
            if seat.part == "chair" and seat.term == max(self.chairs):
                self.test.assertEqual(seat.entries()[:len(self.kept)], self.kept)

    def check_papers(self):
        chairs = {}
        for house, seat in self.seats.items():
            places = []
            for row in papers(seat):
                self.test.assertEqual(row[1], GROUP)
                self.test.assertGreater(2 * len(row[4]), len(row[5]))
                self.test.assertEqual(list(row[4]), [name for name in row[5] if name in row[4]])
                if row[0] == "chair":
                    self.test.assertEqual(row[3], house)
                    self.test.assertNotIn(row[2], chairs)
                    chairs[row[2]] = house
                else:
                    places.append(row[2])
                    self.test.assertEqual(self.kept[row[2]][0], row[3])
                    self.test.assertEqual(chairs[row[3]], house)
        self.test.assertEqual(chairs, self.chairs)
        return chairs


class ManyOrders(unittest.TestCase):

    def test_one_chair_for_each_term_and_what_is_kept_stays(self):
        most_kept = most_chairs = changed = 0
        for seed in range(60):
            group = Group(self, seed)
            for number in range(500):
                group.step()
            most_chairs = max(most_chairs, len(group.check_papers()))
            most_kept = max(most_kept, len(group.kept))
            changed += sum(command[0] == "seats" for term, command in group.kept[1:])
        # The play must have been one that could have shown a fault.
        self.assertGreater(most_kept, 20)
        self.assertGreater(most_chairs, 5)
        self.assertGreater(changed, 30)


if __name__ == "__main__":
    unittest.main()
