"""Points 2 and 3, of seats, stewards and worlds: what is handed in stays, what is told is the asker's own."""

import copy
import unittest

from farbooks.bench import handled, papers, pending, proposed, woken
from farbooks.ledger import Ledger
from farbooks.seat import Seat
from farbooks.steward import Steward
from farbooks.world import World
from tests import benches, worlds
from tests.test_asker import lists_in
from tests.worlds import ALL, BOTH, PUT_B, THREE, alone, hand_all, lose_all, pair, played, slacks_of, trio


def spoil(answer):
    for one in lists_in(answer):
        one.append("spoilt")
        one.reverse()


def busy_seat():
    seat = benches.chair()
    handled(seat, benches.got("bea", "ada", 1, True, 1))
    proposed(seat, ("mark", 5))
    return seat


def busy_world():
    """A world with letters, papers, history, ledgers with something in each list."""
    groups = [("west", ("ada", "bea"), [("m", "t"), ("t", "")]), ("east", ("ada",), [("", "c"), ("c", "m")])]
    world = World((groups, slacks_of(("ada", "bea", "zoe"), 10, 20), 200))
    worlds.woken(world, "ada", "west")
    worlds.woken(world, "ada", "east")
    return played(
        world, ("deal", "ada", "pay", (("d", "put", 1),)), ("move", "ada", "trip", "c", "west"),
        ("deal", "ada", "loan", BOTH), ("read", "ada", 190, "a"),
    )


WORLD_LISTS = (
    lambda world: world.plan(),
    lambda world: world.letters(),
    lambda world: world.standing(),
    lambda world: world.chairs(),
    lambda world: world.groups(),
    lambda world: world.seat_log("ada", "east"),
    lambda world: world.history(),
    lambda world: world.papers(),
    lambda world: world.ledger("ada", "east").owned(),
    lambda world: world.ledger("ada", "east").given(),
)

SEAT_LISTS = (lambda seat: seat.entries(), lambda seat: pending(seat), lambda seat: papers(seat))


class Told(unittest.TestCase):

    def check(self, holder, ask, state):
        first, second = ask(holder), ask(holder)
        self.assertEqual(first, second)
        self.assertNotEqual(lists_in(first), [])
        self.assertTrue(first[0])
        every = lists_in(first) + lists_in(second)
        self.assertEqual(len(every), len({id(one) for one in every}))
        kept, before = copy.deepcopy(second), state(holder)
        spoil(first)
        self.assertEqual(second, kept)
        self.assertEqual(ask(holder), kept)
        self.assertEqual(state(holder), before)

    def test_lists_of_a_seat(self):
        for ask in SEAT_LISTS:
            self.check(busy_seat(), ask, benches.state_of)

    def test_letters_told_by_a_seat(self):
        seat = busy_seat()
        adds, again = woken(seat), woken(seat)
        kept = copy.deepcopy(adds)
        spoil(adds)
        self.assertEqual(again, kept)
        self.assertEqual(woken(seat), kept)
        proposed(seat, ("mark", 6))
        self.assertEqual(again, kept)
        self.assertNotEqual(woken(seat), kept)

    def test_what_a_seat_told_stays_as_it_was(self):
        seat = busy_seat()
        answers = [ask(seat) for ask in SEAT_LISTS] + [woken(seat), seat.names()]
        kept = copy.deepcopy(answers)
        handled(seat, benches.got("cid", "ada", 1, True, 2))
        proposed(seat, ("seats", benches.FOUR))
        handled(seat, benches.add("bea", "ada", 5, 1, 1, [(5, benches.NONE)], 2))
        seat.fall()
        self.assertEqual(answers, kept)

    def test_pairs_of_a_steward(self):
        ledger = Ledger(ALL)
        for command in (("open", "pay", PUT_B), ("give", "trip", "", "south", 5)):
            ledger.apply(command)
        for ask in (
            lambda steward: steward.applied(ledger, ("open", "pay", PUT_B), "open", (100, 110)),
            lambda steward: steward.heard(ledger, [], ("answer", "pay", "south", 0, ()), (100, 110)),
            lambda steward: steward.woken(ledger, [("mark", 3)], (100, 110)),
        ):
            steward = Steward("north")
            first, second = ask(steward), ask(steward)
            self.assertEqual(first, second)
            self.assertEqual(len(lists_in(first)), 2)
            self.assertEqual(len({id(one) for one in lists_in(first) + lists_in(second)}), 4)
            kept = copy.deepcopy(second)
            spoil(first)
            self.assertEqual(second, kept)
            self.assertEqual(ask(Steward("north")), kept)

    def test_lists_of_a_world(self):
        for ask in WORLD_LISTS:
            self.check(busy_world(), ask, worlds.state_of)

    def test_no_list_is_shared_by_two_questions(self):
        world = busy_world()
        every = lists_in([ask(world) for ask in WORLD_LISTS + WORLD_LISTS])
        self.assertEqual(len(every), len({id(one) for one in every}))

    def test_what_a_world_told_stays_as_it_was(self):
        world = busy_world()
        answers = [ask(world) for ask in WORLD_LISTS]
        kept = copy.deepcopy(answers)
        hand_all(world)
        played(world, ("time", 500), ("cut", "ada", "b"), ("seat", "ada", "east", "zoe"), ("fall", "bea"))
        played(world, ("move", "ada", "tour", "", "west"), ("read", "ada", 0, "a"))
        self.assertEqual(answers, kept)
        self.assertNotEqual([ask(world) for ask in WORLD_LISTS], kept)

    def test_a_ledger_goes_its_own_way(self):
        world = busy_world()
        before = worlds.state_of(world)
        ledger = world.ledger("ada", "east")
        for command in (("cut", "b"), ("mark", 5000), ("open", "own", PUT_B), ("over", "loan", 0)):
            self.assertNotIn(ledger.apply(command), ("known", "away"))
        self.assertEqual(worlds.state_of(world), before)
        told = ledger.owned(), ledger.last(), ledger.opened()
        hand_all(world)
        played(world, ("cut", "ada", "a"), ("time", 900), ("wake", "ada", "east"), ("fall", "ada"))
        self.assertEqual((ledger.owned(), ledger.last(), ledger.opened()), told)
        self.assertEqual(world.ledger("ada", "east").last(), 0)

    def test_the_same_question_is_answered_the_same(self):
        world = busy_world()
        self.assertEqual(worlds.state_of(world), worlds.state_of(world))
        seat = busy_seat()
        self.assertEqual(benches.state_of(seat), benches.state_of(seat))

    def test_the_same_happenings_lead_to_the_same_world(self):
        self.assertEqual(worlds.state_of(busy_world()), worlds.state_of(busy_world()))


class HandedIn(unittest.TestCase):

    def test_a_plan(self):
        groups = [("west", ("ada", "bea"), [("m", "")]), ("east", ("ada",), [("", "c"), ("c", "m")])]
        plan = (groups, slacks_of(("zoe", "bea", "ada")), 200)
        kept = copy.deepcopy(plan)
        world = World(plan)
        for group in ("east", "west"):
            worlds.woken(world, "ada", group)
        hand_all(played(world, ("cut", "ada", "b"), ("move", "ada", "trip", "", "west"), ("seat", "ada", "east", "zoe")))
        played(world, ("fall", "ada"), ("rise", "ada"), ("time", 5))
        self.assertEqual(plan, kept)

    def test_changing_a_plan_later_changes_nothing(self):
        groups = [("north", ("ada",), [("", "m"), ("m", "")])]
        slacks = slacks_of(("ada", "zoe"), 10, 20)
        world = World((groups, slacks, 200))
        before = worlds.state_of(world)
        groups[0][2].pop()
        groups.append(("south", ("ada",), []))
        slacks.pop()
        self.assertEqual(worlds.state_of(world), before)
        played(world, ("fall", "ada"), ("rise", "ada"))
        self.assertEqual(world.ledger("ada", "north").owned(), [("", "m"), ("m", "")])

    def test_two_worlds_of_one_plan(self):
        plan = trio().plan()
        one, other = World(plan), World(plan)
        before = worlds.state_of(other)
        worlds.woken(one, "ada", "north")
        played(one, ("cut", "ada", "m"), ("fall", "bea"))
        self.assertEqual(worlds.state_of(other), before)

    def test_what_was_told_may_be_handed_in_again(self):
        world = busy_world()
        again = World(world.plan())
        self.assertEqual(again.plan(), world.plan())
        seat = Seat("west", "bea", world.names("ada", "west"))
        handled(seat, ("add", "west", "ada", "bea", 1, 0, 0, tuple(world.seat_log("ada", "west")[1:]), 1))
        for letter in world.letters():
            if letter[0] != "note":
                handled(seat, letter)
        self.assertEqual(seat.entries(), world.seat_log("ada", "west"))
        self.assertEqual(Ledger(world.ledger("ada", "west").owned()).owned(), world.ledger("ada", "west").owned())

    def test_names_and_entries(self):
        seat = Seat("north", "ada", THREE)
        entries = ((1, ("none",)), (1, ("seats", ("ada", "bea"))))
        letter = ("add", "north", "bea", "ada", 1, 0, 0, entries, 2)
        kept = copy.deepcopy(letter)
        for number in range(2):
            handled(seat, letter)
        handled(seat, ("add", "north", "cid", "ada", 2, 0, 0, ((2, ("none",)),), 0))
        self.assertEqual((letter, THREE), (kept, ("ada", "bea", "cid")))

    def test_entries_go_from_seat_to_seat_as_they_are(self):
        chair = busy_seat()
        bea, cid = [Seat("north", house, benches.THREE) for house in ("bea", "cid")]
        for seat, letter in zip((bea, cid), woken(chair)):
            handled(seat, letter)
        handled(cid, ("add", "north", "zoe", "cid", 9, 0, 0, ((9, ("none",)),), 0))
        self.assertEqual(chair.entries()[1:], [(1, ("none",)), (1, ("mark", 5))])

    def test_pending_commands_and_ledgers(self):
        ledger = worlds.woken(alone(), "ada", "north").ledger("ada", "north")
        ledger.apply(("open", "pay", PUT_B))
        waiting = [("mark", 5), ("ready", "pay", PUT_B, 7)]
        steward = Steward("north")
        for number in range(4):
            steward.woken(ledger, waiting, (100, 120))
            steward.heard(ledger, waiting, ("want", "pay", PUT_B, "north"), (100, 120))
            steward.heard(ledger, waiting, ("answer", "pay", "north", 50, ("b",)), (100, 120))
        self.assertEqual(waiting, [("mark", 5), ("ready", "pay", PUT_B, 7)])
        self.assertEqual((ledger.opened(), ledger.ready(), ledger.last()), ([("pay", PUT_B)], [], 0))

    def test_a_happening(self):
        world = pair()
        happenings = [
            ("wake", "ada", "east"), ("deal", "ada", "pay", PUT_B), ("hand", 0), ("move", "ada", "trip", "", "west"),
            ("read", "ada", 5, "a"), ("seat", "ada", "east", "zoe"),
        ]
        kept = copy.deepcopy(happenings)
        played(world, *happenings)
        lose_all(world)
        self.assertEqual(happenings, kept)


if __name__ == "__main__":
    unittest.main()
