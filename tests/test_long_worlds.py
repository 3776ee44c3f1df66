"""Point 22: whatever happens, what was kept, told and seen stays so; and a calm settles."""

import unittest

from farbooks.calming import calm, settled
from farbooks.order import faults, order_of
from farbooks.spans import all_kept
from farbooks.tale import book_of, record_of
from tests import plays
from tests.worlds import state_of


class Watch:
    """What a world has kept, told and could tell, and that it stays so as the world goes on."""

    def __init__(self, test, world):
        self.test = test
        self.world = world
        self.history = []
        self.papers = []
        self.kept = {}
        self.told = {}
        self.known = {}

    def look(self):
        self.look_at_history()
        self.look_at_logs()
        self.look_at_ledgers()

    def look_at_history(self):
        history = self.world.history()
        self.test.assertEqual(history[:len(self.history)], self.history)
        for row in history[len(self.history):]:
            if row[0] == "told":
                self.test.assertEqual(self.told.setdefault(row[2], row[3]), row[3], row)
            if row[0] == "saw":
                self.test.assertEqual(self.known.setdefault(row[4:6], row[6]), row[6], row)
        self.history = history
        papers = self.world.papers()
        left = list(papers)
        for paper in self.papers:
            left.remove(paper)
        self.papers = papers

    def look_at_logs(self):
        for group in self.world.groups():
            kept = plays.kept_entries(self.world, group)
            before = self.kept.get(group, [])
            self.test.assertEqual(kept[:len(before)], before)
            self.kept[group] = kept

    def look_at_ledgers(self):
        hour = self.world.time()
        for house, group in plays.seats_of(self.world):
            ledger = self.world.ledger(house, group)
            for key in plays.KEYS:
                for moment in (0, 150, hour - 150, hour - 50, hour):
                    value = ledger.tells(key, moment)
                    if value is not None:
                        self.test.assertEqual(self.known.setdefault((key, moment), value), value, (key, moment))


def heavy_plan(number):
    """Four groups of three houses of eight, each with a span."""
    ends = ["", "d", "k", "p", ""]
    groups = []
    for place, group in enumerate(plays.GROUPS):
        houses = sorted({plays.HOUSES[(place * 2 + step + number) % 8] for step in range(3)})
        groups.append((group, tuple(houses), [(ends[place], ends[place + 1])]))
    return (groups, [(house, 10 * place, 5 * place) for place, house in enumerate(plays.HOUSES)], 200)


class LongWorlds(unittest.TestCase):

    def play(self, player, many, calm_each=0):
        """Play, with a round of calm now and then where one is asked for, so that more comes to its end."""
        watch = Watch(self, player.world)
        for number in range(many):
            self.play_some(player)
            if calm_each and number % calm_each == 0:
                calm(player.world, 1)
            watch.look()
        plays.check_world(self, player.world)
        return watch

    def play_some(self, player):
        """Play 25 happenings, with no fault behind each."""
        for number in range(25):
            player.play(1)
            self.assertEqual(faults(record_of(player.world)), [], player.done)

    def settle(self, player, watch, are_few=False):
        """Let all houses stand, or as few as there may be, and calm."""
        world = player.world
        houses = [row[0] for row in world.plan()[1]]
        for house in houses:
            world.happen(("rise", house))
        while len(world.letters()) > 400:
            world.happen(("lose", 0))
        if are_few:
            self.let_fall(world, player.rng.sample(houses, len(houses)))
        self.assertTrue(plays.may_be_calmed(world))
        hour = world.time()
        calm(world, 40)
        self.assertTrue(plays.is_settled(world))
        self.assertTrue(settled(world))
        self.assertEqual(plays.unknown_of(world, (0, 1, 150, hour // 2, hour - 1, hour)), [])
        watch.look()
        order = plays.check_world(self, world)
        self.check_all_done(world, order)
        self.check_record(world, order)
        return order

    def let_fall(self, world, houses):
        """Let each of the houses fall without which the world may yet be calmed."""
        for house in houses:
            world.happen(("fall", house))
            if not plays.may_be_calmed(world):
                world.happen(("rise", house))

    def check_record(self, world, order):
        """The record has no fault, and tells of the same order and books as the tests find by themselves."""
        record = record_of(world)
        self.assertEqual(faults(record), [])
        self.assertEqual(order_of(record), order)
        books, opened = plays.books_of(world)
        for group, book in books.items():
            self.assertEqual(book_of(record, group).owned(), book.owned())
            self.assertEqual([book_of(record, group).value(key) for key in plays.KEYS], [book.value(key) for key in plays.KEYS])

    def check_all_done(self, world, order):
        """In a settled world each dealing is done wholly or not at all, and each key is owned once."""
        books, opened = plays.books_of(world)
        table = plays.table_at(order, world.time() + 10 ** 6)
        for key in plays.KEYS:
            owners = [book for book in books.values() if any(plays.has_key(span, key) for span in book.owned())]
            self.assertEqual([book.value(key) for book in owners], [table.get(key, 0)], key)
        self.assertTrue(all_kept(sorted(span for book in books.values() for span in book.owned())))
        for deal in opened:
            self.assertIsNotNone(books[opened[deal][0]].chosen(deal))
            self.assertNotIn(deal, [row[0] for book in books.values() for row in book.ready()])

    def test_worlds_of_all_shapes(self):
        done = 0
        for seed in range(40):
            player = plays.Player(seed)
            watch = self.play(player, 16)
            done += len(self.settle(player, watch))
        self.assertGreater(done, 40)

    def test_worlds_of_four_groups(self):
        done = moved = several = 0
        for seed in range(24):
            player = plays.Player(seed + 500, heavy_plan(seed))
            calm(player.world, 3)
            watch = self.play(player, 24, calm_each=2)
            order = self.settle(player, watch)
            done += len(order)
            several += sum(self.many_groups(player.world, row[1]) > 1 for row in order)
            moved += sum(command[0] == "take" for entries in watch.kept.values() for term, command in entries)
        # The play must have been one that could have shown a fault.
        self.assertGreater(done, 40)
        self.assertGreater(several, 20)
        self.assertGreater(moved, 60)

    def test_worlds_in_which_few_houses_stand(self):
        done = fallen = 0
        for seed in range(30):
            player = plays.Player(seed + 900, heavy_plan(seed) if seed % 2 else None)
            watch = self.play(player, 10, calm_each=3)
            done += len(self.settle(player, watch, are_few=True))
            fallen += len(player.world.plan()[1]) - len(player.world.standing())
        self.assertGreater(done, 30)
        self.assertGreater(fallen, 40)

    def many_groups(self, world, deal):
        """In how many groups the dealing was done."""
        books, opened = plays.books_of(world)
        return sum(bool(book.ended(deal)) for book in books.values())

    def test_the_same_happenings_lead_to_the_same_world(self):
        for seed in (3, 11, 29):
            player = plays.Player(seed)
            player.play(300)
            again = plays.replayed(player.world.plan(), player.done)
            self.assertEqual(state_of(again), state_of(player.world))

    def test_asking_changes_nothing(self):
        for seed in (5, 17):
            player = plays.Player(seed)
            player.play(200)
            again = plays.replayed(player.world.plan(), [])
            for happening in player.done:
                again.happen(happening)
                state_of(again)
            self.assertEqual(state_of(again), state_of(player.world))


class FewHouses(unittest.TestCase):

    def test_no_calm_where_too_few_stand(self):
        world = plays.replayed(heavy_plan(0), [("fall", "ada"), ("fall", "bea"), ("fall", "cid")])
        self.assertFalse(plays.may_be_calmed(world))
        calm(world, 40)
        plays.check_world(self, world)
        self.assertEqual(faults(record_of(world)), [])
        self.assertFalse(plays.is_settled(world))
        self.assertFalse(settled(world))


if __name__ == "__main__":
    unittest.main()
