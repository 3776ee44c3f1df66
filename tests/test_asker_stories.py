"""Points 2 and 3, of records, orders, calms and stories: what is handed in stays, what is told is the asker's own."""

import copy
import unittest

from farbooks.calming import calm, settled
from farbooks.errors import StoryError
from farbooks.ledger import Ledger
from farbooks.order import faults, order_of, plain
from farbooks.story import read_story, shown_story, told_story
from farbooks.tale import book_of, kept_of, record_of
from farbooks.world import World
from tests import states, worlds
from tests.records import alone, begun, busy_record, busy_world, done, hand_made, told, with_logs
from tests.test_asker import lists_in
from tests.test_asker_worlds import spoil
from tests.worlds import THREE, played, slacks_of, trio

STORY = "group b ada bea\nspan b m -\ngroup a ada\nspan a - c\nspan a c m\nslack zoe 1 2\ncalm 1\ndeal ada pay b put 1\ncalm 2\nread ada 5 b"

FAULTY = alone(*done("d", (("b", "put", 5),), 5, 7)[:3], ("over", "d", 8), history=[begun("d"), told("d", 9)])

RECORD_LISTS = (
    lambda record: kept_of(record, "east"),
    lambda record: kept_of(record, "west"),
    lambda record: order_of(record),
    lambda record: plain(order_of(record), 10 ** 6),
    lambda record: book_of(record, "east").owned(),
    lambda record: book_of(record, "west").taken(),
)


class Told(unittest.TestCase):

    def check(self, ask, state):
        """Ask twice; spoil the first answer: the second one, later ones and what was asked stay as they were."""
        first, second = ask(), ask()
        self.assertEqual(first, second)
        every = lists_in(first) + lists_in(second)
        self.assertGreater(len(every), 1)
        self.assertEqual(len(every), len({id(one) for one in every}))
        kept, before = copy.deepcopy(second), state()
        spoil(first)
        self.assertEqual(second, kept)
        self.assertEqual(ask(), kept)
        self.assertEqual(state(), before)

    def test_records(self):
        world = busy_world()
        self.check(lambda: record_of(world), lambda: worlds.state_of(world))

    def test_what_a_record_holds_is_no_list_of_another_answer(self):
        world = busy_world()
        record = record_of(world)
        answers = [record, world.plan(), world.papers(), world.history(), world.seat_log("ada", "east"), record_of(world)]
        answers += [ask(record) for ask in RECORD_LISTS + RECORD_LISTS]
        every = lists_in(answers)
        self.assertEqual(len(every), len({id(one) for one in every}))

    def test_a_record_stays_as_it_was(self):
        world = busy_world()
        record = record_of(world)
        kept = copy.deepcopy(record)
        calm(world, 3)
        played(world, ("cut", "ada", "b"), ("fall", "ada"), ("read", "bea", 5, "b"))
        self.assertEqual(record, kept)
        self.assertNotEqual(record_of(world), kept)

    def test_of_a_record(self):
        for ask in RECORD_LISTS:
            record = busy_record()
            self.check(lambda: ask(record), lambda: copy.deepcopy(record))

    def test_faults(self):
        self.assertGreater(len(faults(FAULTY)), 1)
        self.check(lambda: faults(FAULTY), lambda: copy.deepcopy(FAULTY))
        record = busy_record()
        self.check(lambda: faults(record), lambda: copy.deepcopy(record))

    def test_a_plain(self):
        order = order_of(busy_record())
        for moment in (0, 1500, 10 ** 6):
            self.check(lambda: plain(order, moment), lambda: copy.deepcopy(order))

    def test_books(self):
        record = busy_record()
        before = copy.deepcopy(record)
        one, other = book_of(record, "east"), book_of(record, "east")
        state = states.state_of(other)
        for command in (("cut", "b"), ("mark", 10 ** 6), ("open", "own", (("b", "put", 1),))):
            one.apply(command)
        self.assertNotEqual(states.state_of(one), state)
        self.assertEqual(states.state_of(other), state)
        self.assertEqual(states.state_of(book_of(record, "east")), state)
        self.assertEqual(record, before)

    def test_the_happenings_of_a_calm(self):
        world, other = trio(), trio()
        done_here, done_there = calm(world, 2), calm(other, 2)
        spoil(done_here)
        self.assertEqual(worlds.state_of(world), worlds.state_of(other))
        later = calm(other, 1)
        self.assertEqual(calm(world, 1), later)
        self.assertEqual(worlds.state_of(played(trio(), *done_there, *later)), worlds.state_of(other))

    def test_stories(self):
        self.check(lambda: read_story(STORY), lambda: told_story(STORY))

    def test_the_same_question_is_answered_the_same(self):
        world = busy_world()
        record = record_of(world)
        for ask in (
            lambda: record_of(world), lambda: settled(world), lambda: faults(record), lambda: faults(FAULTY),
            lambda: read_story(STORY), lambda: shown_story(*read_story(STORY)), lambda: told_story(STORY),
        ):
            self.assertEqual(ask(), ask())

    def test_worlds_answer_the_same_behind_all_questions(self):
        world, asked = busy_world(), busy_world()
        record = record_of(asked)
        for ask in RECORD_LISTS:
            spoil(ask(record))
        faults(record), settled(asked)
        spoil(record)
        self.assertEqual(worlds.state_of(asked), worlds.state_of(world))
        self.assertEqual(calm(asked, 2), calm(world, 2))
        self.assertEqual(record_of(asked), record_of(world))

    def test_a_story_refused_leaves_nothing_behind(self):
        for text in ("hello", "group a ada", "group a ada\ngroup a ada"):
            places = []
            for number in range(2):
                with self.assertRaises(StoryError) as caught:
                    read_story(text)
                places.append((type(caught.exception), caught.exception.place))
                self.assertEqual(len(read_story(STORY)[1]), 4)
            self.assertEqual(places[0], places[1])


class HandedIn(unittest.TestCase):

    def test_records(self):
        for record in (busy_record(), FAULTY, with_logs(busy_record(), []), hand_made()):
            kept = copy.deepcopy(record)
            for group in ("east", "west", "north"):
                kept_of(record, group)
                book_of(record, group).apply(("cut", "c"))
            plain(order_of(record), 2000)
            faults(record)
            self.assertEqual(record, kept)

    def test_changing_a_record_later_changes_no_answer(self):
        record = busy_record()
        answers = [ask(record) for ask in RECORD_LISTS] + [faults(record)]
        book = book_of(record, "east")
        kept, state = copy.deepcopy(answers), states.state_of(book)
        spoil(record)
        self.assertEqual(answers, kept)
        self.assertEqual(states.state_of(book), state)

    def test_orders(self):
        order = order_of(busy_record())
        kept = copy.deepcopy(order)
        table = plain(order, 10 ** 6)
        before = list(table)
        self.assertEqual(order, kept)
        order.clear()
        self.assertEqual(table, before)

    def test_plans_and_happenings(self):
        plan, happenings = read_story(STORY)
        kept = copy.deepcopy((plan, happenings))
        text = shown_story(plan, happenings)
        world = World(plan)
        for happening in happenings:
            world.happen(happening)
        calm(world, 2)
        self.assertEqual((plan, happenings), kept)
        spoil((plan, happenings))
        self.assertEqual(text, shown_story(*kept))
        self.assertEqual(world.plan(), kept[0])

    def test_a_world_is_changed_by_calm_alone(self):
        world = busy_world()
        before = worlds.state_of(world)
        record_of(world), settled(world), faults(record_of(world)), order_of(record_of(world))
        self.assertEqual(worlds.state_of(world), before)
        calm(world, 1)
        self.assertNotEqual(worlds.state_of(world), before)

    def test_what_was_told_may_be_handed_in_again(self):
        world = busy_world()
        record = record_of(world)
        again = (record[0], [row for row in record[1]], world.papers(), world.history())
        self.assertEqual((faults(again), order_of(again)), ([], order_of(record)))
        self.assertEqual(record_of(World(record[0]))[0], record[0])
        book = Ledger(record[0][0][1][2])
        for command in kept_of(record, "east"):
            book.apply(command)
        self.assertEqual(states.state_of(book), states.state_of(book_of(record, "east")))
        self.assertEqual(read_story(shown_story(*read_story(STORY))), read_story(STORY))
        self.assertEqual(read_story(shown_story(World(read_story(STORY)[0]).plan(), [])), (read_story(STORY)[0], []))
        other = World((([("north", THREE, [("", "")])]), slacks_of(THREE, 10, 20), 200))
        self.assertEqual(worlds.state_of(played(other, *calm(trio(), 3))), worlds.state_of(played(trio(), *calm(trio(), 3))))


if __name__ == "__main__":
    unittest.main()
