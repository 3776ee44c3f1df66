"""Point 21: records, what a group has kept, and its book."""

import unittest

from farbooks.tale import book_of, kept_of, record_of
from farbooks.world import World
from tests.records import busy_record, busy_world, hand_made, with_logs, with_papers
from tests.states import state_of
from tests.worlds import PUT_B, apart, hand_all, played, slacks_of, trio, woken

SEATS = ("seats", ("ada", "bea"))
FIRST = (0, SEATS)
SPANS = [("", "m"), ("m", "")]


def record(logs, papers, spans=SPANS):
    """A record of a group north with these logs and kept papers (place, term), beside a group south without keys."""
    groups = [("south", ("ada",), []), ("north", ("ada", "bea"), list(spans))]
    rows = [("kept", "north", place, term, ("ada", "bea"), ("ada", "bea")) for place, term in papers]
    return ((groups, slacks_of(("ada", "bea")), 200), list(logs), rows, [])


def log(house, *entries, kept=0, group="north"):
    return (house, group, [FIRST, *entries], kept)


class Records(unittest.TestCase):

    def test_a_record_is_the_plan_the_logs_the_papers_and_the_history(self):
        world = busy_world()
        told = record_of(world)
        self.assertIsInstance(told, tuple)
        plan, logs, papers, history = told
        self.assertEqual(plan, world.plan())
        self.assertEqual(papers, world.papers())
        self.assertEqual(history, world.history())
        self.assertEqual([type(part) for part in (logs, papers, history)], [list, list, list])

    def test_logs_by_houses_then_groups(self):
        world = busy_world()
        logs = record_of(world)[1]
        self.assertEqual([row[:2] for row in logs], [
            ("ada", "east"), ("bea", "east"), ("bea", "west"), ("cid", "east"), ("cid", "west"), ("dot", "west"),
            ("zoe", "east"),
        ])
        for row in logs:
            self.assertIsInstance(row, tuple)
            self.assertEqual(row[2:], (world.seat_log(*row[:2]), world.kept_place(*row[:2])))

    def test_a_spare_has_a_log_from_its_first_letter_on(self):
        world = trio(("zoe",))
        self.assertNotIn("zoe", [row[0] for row in record_of(world)[1]])
        played(woken(world, "ada", "north"), ("seat", "ada", "north", "zoe"))
        hand_all(world)
        self.assertEqual(record_of(world)[1][-1], ("zoe", "north", world.seat_log("ada", "north"), 2))

    def test_of_a_fallen_house_its_log_and_kept_0(self):
        world = played(woken(trio(), "ada", "north"), ("fall", "ada"))
        self.assertEqual(record_of(world)[1][0], ("ada", "north", world.seat_log("ada", "north"), 0))
        self.assertEqual(len(world.seat_log("ada", "north")), 2)

    def test_a_world_in_which_nothing_happened(self):
        world = apart()
        self.assertEqual(record_of(world), (world.plan(), [
            ("ada", "east", [(0, ("seats", ("ada",)))], 0), ("bea", "west", [(0, ("seats", ("bea",)))], 0),
        ], [], []))


class Kept(unittest.TestCase):

    def check(self, told, commands):
        self.assertEqual(kept_of(told, "north"), commands)
        self.assertIsInstance(kept_of(told, "north"), list)

    def test_without_a_paper_the_first_entry(self):
        self.check(record([log("ada", (1, ("none",)), (1, ("mark", 5)))], []), [SEATS])

    def test_a_paper_of_a_chair_keeps_nothing(self):
        told = record([log("ada", (1, ("none",)))], [])
        self.check(with_papers(told, [("chair", "north", 1, "ada", ("ada", "bea"), ("ada", "bea"))]), [SEATS])

    def test_a_paper_of_another_group_keeps_nothing(self):
        told = record([log("ada", (1, ("none",)))], [])
        self.check(with_papers(told, [("kept", "south", 1, 1, ("ada", "bea"), ("ada", "bea"))]), [SEATS])
        self.assertEqual(kept_of(record([log("ada", (1, ("none",)))], [(1, 1)]), "south"), [])

    def test_up_to_the_place_of_the_paper(self):
        entries = [(1, ("none",)), (1, ("mark", 5)), (1, ("mark", 6))]
        self.check(record([log("ada", *entries)], [(2, 1)]), [SEATS, ("none",), ("mark", 5)])
        self.check(record([log("ada", *entries)], [(3, 1)]), [SEATS, ("none",), ("mark", 5), ("mark", 6)])

    def test_of_several_papers_the_greatest_place(self):
        entries = [(1, ("none",)), (1, ("mark", 5)), (4, ("none",))]
        for papers in ([(1, 1), (3, 4), (2, 1)], [(3, 4), (1, 1)], [(1, 1), (2, 1), (3, 4)]):
            self.check(record([log("ada", *entries)], papers), [SEATS, ("none",), ("mark", 5), ("none",)])

    def test_the_greatest_place_isnt_the_greatest_term(self):
        entries = [(1, ("none",)), (1, ("mark", 5))]
        self.check(record([log("ada", *entries)], [(1, 9), (2, 1)]), [SEATS, ("none",), ("mark", 5)])

    def test_of_a_log_that_has_the_papers_term_there(self):
        other = log("ada", (1, ("none",)), (1, ("mark", 5)), (1, ("mark", 6)))
        right = log("bea", (1, ("none",)), (3, ("none",)))
        for logs in ([other, right], [right, other]):
            self.check(record(logs, [(2, 3), (1, 1)]), [SEATS, ("none",), ("none",)])

    def test_a_log_that_is_too_short(self):
        short = log("ada", (1, ("none",)))
        self.check(record([short, log("bea", (1, ("none",)), (1, ("mark", 5)))], [(2, 1)]), [SEATS, ("none",), ("mark", 5)])

    def test_a_log_of_a_house_that_the_plan_doesnt_tell(self):
        self.check(record([log("ada"), log("yan", (2, ("none",)))], [(1, 2)]), [SEATS, ("none",)])

    def test_a_log_of_another_group_is_none_of_its_own(self):
        logs = [log("ada", (1, ("mark", 7)), group="south"), log("bea", (1, ("none",)))]
        self.check(record(logs, [(1, 1)]), [SEATS, ("none",)])

    def test_none_where_no_log_has_the_greatest_kept_entry(self):
        for logs in ([log("ada")], [log("ada", (2, ("none",)))], [], [log("ada", (1, ("none",)), group="south")]):
            self.check(record(logs, [(1, 1)]), [])
        self.check(record([], []), [])

    def test_of_a_world(self):
        told = busy_record()
        logs = {row[:2]: row[2] for row in told[1]}
        self.assertEqual(kept_of(told, "east"), [command for term, command in logs["bea", "east"]])
        # The chair's last entry was proposed, but isn't kept.
        self.assertEqual(kept_of(told, "east"), [command for term, command in logs["ada", "east"][:-1]])
        self.assertEqual(kept_of(told, "west"), [command for term, command in logs["dot", "west"]])

    def test_falls_lose_nothing(self):
        world = busy_world()
        before = [kept_of(record_of(world), group) for group in world.groups()]
        played(world, *[("fall", house) for house in world.standing()])
        self.assertEqual([kept_of(record_of(world), group) for group in world.groups()], before)


class Books(unittest.TestCase):

    def test_the_first_spans_and_all_that_was_kept(self):
        commands = [("cut", "c"), ("ready", "d", PUT_B, 5), ("over", "d", 7), ("give", "v", "m", "south", 9)]
        entries = [(1, ("none",))] + [(1, command) for command in commands]
        book = book_of(record([log("ada", *entries)], [(4, 1)]), "north")
        self.assertEqual((book.owned(), book.last(), book.value("b")), ([("", "c"), ("c", "m"), ("m", "")], 7, 5))
        self.assertEqual((book.ended("d"), book.given()), (7, []))
        book = book_of(record([log("ada", *entries)], [(5, 1)]), "north")
        self.assertEqual((book.owned(), book.taken()), ([("", "c"), ("c", "m")], []))
        self.assertEqual(book.given(), [("v", "m", "", "south", 9, ())])

    def test_with_nothing_kept(self):
        for logs, papers in (([log("ada", (1, ("cut", "c")))], []), ([log("ada")], [(1, 1)]), ([], [])):
            book = book_of(record(logs, papers), "north")
            self.assertEqual((book.owned(), book.last(), book.opened()), (SPANS, 0, []))

    def test_a_group_without_spans(self):
        book = book_of(record([log("ada")], []), "south")
        self.assertEqual(book.owned(), [])
        self.assertEqual(book.apply(("take", "v", "", "m", 5, ())), "taken")

    def test_of_a_world(self):
        world = busy_world()
        told = record_of(world)
        for house, group in (("ada", "east"), ("bea", "west")):
            book, ledger = book_of(told, group), world.ledger(house, group)
            self.assertEqual(state_of(book), state_of(ledger))
            for deal in ("pay", "loan", "wish", "gift", "late"):
                self.assertEqual((book.chosen(deal), book.ended(deal)), (ledger.chosen(deal), ledger.ended(deal)))

    def test_a_book_goes_its_own_way(self):
        told = busy_record()
        before = state_of(book_of(told, "east"))
        self.assertEqual(book_of(told, "east").apply(("mark", 9999)), "marked")
        self.assertEqual(state_of(book_of(told, "east")), before)

    def test_a_log_with_another_terms_entry(self):
        told = hand_made(("north", [("", "")], [("mark", 5)]))
        other = ("aba", "north", [(0, ("seats", ("ada",))), (1, ("none",)), (2, ("mark", 9))], 0)
        self.assertEqual(book_of(with_logs(told, [other, *told[1]]), "north").last(), 5)

    def test_the_world_of_a_told_plan_is_alike(self):
        plan = busy_record()[0]
        self.assertEqual(record_of(World(plan)), record_of(World(busy_world().plan())))


if __name__ == "__main__":
    unittest.main()
