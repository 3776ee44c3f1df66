"""Point 21: what is wrong with a record, one thing at a time."""

import unittest

from farbooks.order import faults
from tests.records import (
    alone, begun, busy_record, command_of, done, hand_made, log_of, row_of, saw, swapped, told, with_command,
    with_history, with_logs, with_papers, with_plan,
)

PUT_B = (("b", "put", 5),)
ADD_B = (("b", "add", 3),)
BOTH = (("b", "add", 2), ("x", "put", 7))


class Checks(unittest.TestCase):

    def right(self, record):
        self.assertEqual(faults(record), [])

    def wrong(self, record):
        found = faults(record)
        self.assertNotEqual(found, [])
        self.assertIsInstance(found, list)
        for words in found:
            self.assertIsInstance(words, str)
            self.assertNotIn("\n", words)


class Told(Checks):

    def test_a_record_that_a_world_made(self):
        self.right(busy_record())

    def test_another_verdict(self):
        record = busy_record()
        for deal, verdict in (("pay", 1220), ("wish", 0)):
            row = row_of(record, "told", deal, verdict)
            for other in (verdict + 1, 5):
                self.wrong(with_history(record, swapped(record[3], row, row[:3] + (other,) + row[4:])))
        row = row_of(record, "told", "pay", 1220)
        self.wrong(with_history(record, swapped(record[3], row, row[:3] + (0,) + row[4:])))

    def test_a_verdict_told_again(self):
        record = busy_record()
        row = row_of(record, "told", "pay", 1220)
        self.right(with_history(record, [*record[3], row]))
        self.wrong(with_history(record, [*record[3], row[:3] + (1221,) + row[4:]]))

    def test_of_a_dealing_that_no_book_has_chosen(self):
        record = busy_record()
        for deal in ("ghost", "late"):
            for verdict in (0, 5):
                self.wrong(with_history(record, [*record[3], told(deal, verdict)]))

    def test_of_a_dealing_opened_and_not_chosen(self):
        for verdict in (0, 7):
            commands = [("open", "d", PUT_B), ("ready", "d", PUT_B, 5)]
            self.right(alone(*commands, history=[begun("d")]))
            self.wrong(alone(*commands, history=[begun("d"), told("d", verdict)]))
        self.right(alone(*commands, ("choose", "d", 7), history=[begun("d"), told("d", 7)]))

    def test_the_verdict_chosen_where_it_was_opened(self):
        # A verdict for a dealing that wasn't opened there is shut.
        for groups in (("east", "west"), ("west", "east")):
            books = {"east": ("east", [("", "m")], [("open", "d", PUT_B), ("choose", "d", 7)]),
                     "west": ("west", [("m", "")], [("choose", "d", 8)])}
            for verdict, check in ((7, self.right), (8, self.wrong)):
                check(hand_made(*[books[group] for group in groups], history=[told("d", verdict)]))

    def test_the_first_verdict_chosen(self):
        commands = [("open", "d", PUT_B), ("choose", "d", 7), ("choose", "d", 8)]
        self.right(alone(*commands, history=[told("d", 7)]))
        self.wrong(alone(*commands, history=[told("d", 8)]))

    def test_where_no_log_has_what_was_kept_nothing_is_chosen(self):
        record = alone(("open", "d", PUT_B), ("choose", "d", 7), history=[told("d", 7)])
        self.right(record)
        self.assertEqual(len(faults(with_logs(record, []))), 2)


class Times(Checks):

    def two(self, first, second, history):
        commands = [
            ("open", "d", PUT_B), ("choose", "d", first), ("open", "e", (("x", "put", 1),)), ("choose", "e", second),
        ]
        return alone(*commands, history=history)

    def test_told_ahead_of_the_others_beginning(self):
        history = [begun("d"), told("d", 7), begun("e")]
        self.right(self.two(7, 8, history))
        self.wrong(self.two(7, 7, history))
        self.wrong(self.two(8, 7, history))

    def test_told_behind_the_others_beginning(self):
        for first, second in ((7, 8), (7, 7), (8, 7)):
            self.right(self.two(first, second, [begun("d"), begun("e"), told("d", first), told("e", second)]))
            self.right(self.two(first, second, [begun("e"), begun("d"), told("e", second), told("d", first)]))

    def test_by_their_places_not_by_their_times(self):
        late = ("told", 10 ** 6, "d", 8, "ada", 10 ** 6)
        self.wrong(self.two(8, 7, [begun("d"), late, begun("e")]))
        self.right(self.two(8, 7, [("begun", 10 ** 7, "e", PUT_B, "north"), begun("d"), late]))

    def test_a_dealing_refused_has_no_time(self):
        self.right(self.two(0, 7, [begun("d"), told("d", 0), begun("e")]))
        self.right(self.two(7, 0, [begun("d"), told("d", 7), begun("e"), told("e", 0)]))

    def test_a_dealing_begun_and_never_chosen(self):
        self.right(self.two(7, 8, [begun("d"), told("d", 7), begun("e"), told("e", 8), begun("f")]))

    def test_a_dealing_isnt_told_ahead_of_itself(self):
        self.right(self.two(7, 8, [told("d", 7), begun("d")]))

    def test_told_by_the_first_of_several_rows(self):
        self.wrong(self.two(8, 7, [told("d", 8), begun("e"), told("d", 8)]))

    def test_not_only_the_dealing_told_last(self):
        commands = [
            ("open", "d", PUT_B), ("choose", "d", 9), ("open", "e", PUT_B), ("choose", "e", 7),
            ("open", "f", PUT_B), ("choose", "f", 8),
        ]
        self.wrong(alone(*commands, history=[told("d", 9), told("e", 7), begun("f")]))
        self.wrong(alone(*commands, history=[told("e", 7), told("d", 9), begun("f")]))
        self.right(alone(*commands, history=[told("e", 7), begun("f"), told("d", 9)]))

    def test_dealings_of_two_groups(self):
        books = [
            ("east", [("", "m")], [("open", "d", PUT_B), ("choose", "d", 9)]),
            ("west", [("m", "")], [("open", "e", (("x", "put", 1),)), ("choose", "e", 8)]),
        ]
        self.right(hand_made(*books, history=[begun("e"), told("d", 9)]))
        self.wrong(hand_made(*books, history=[told("d", 9), begun("e")]))

    def test_of_a_world_in_the_other_order(self):
        record = busy_record()
        row = row_of(record, "told", "gift", 2720)
        rest = [other for other in record[3] if other != row]
        place = rest.index(row_of(record, "begun", "loan"))
        self.wrong(with_history(record, rest[:place] + [row] + rest[place:]))
        self.right(with_history(record, rest[:place + 1] + [row] + rest[place + 1:]))


class Seen(Checks):

    def test_another_value(self):
        record = busy_record()
        for key, moment, value in (("b", 3350, 8), ("g", 2750, 0), ("x", 3050, 2), ("y", 1450, 0)):
            row = next(row for row in record[3] if row[0] == "saw" and row[4:] == (key, moment, value))
            for other in (value + 1, value - 1):
                self.wrong(with_history(record, swapped(record[3], row, row[:6] + (other,))))

    def test_another_moment_or_key(self):
        record = busy_record()
        row = next(row for row in record[3] if row[0] == "saw" and row[4:] == ("b", 1950, 9))
        for key, moment, check in (("b", 1720, self.right), ("b", 1719, self.wrong), ("b", 2719, self.right),
                                   ("b", 2720, self.wrong), ("bb", 1950, self.wrong)):
            check(with_history(record, swapped(record[3], row, row[:4] + (key, moment, 9))))

    def test_at_each_moment(self):
        commands = done("d", PUT_B, 5, 7) + done("e", ADD_B, 8, 9)
        for moment, value in ((0, 0), (6, 0), (7, 5), (8, 5), (9, 8), (10 ** 12, 8)):
            self.right(alone(*commands, history=[saw("b", moment, value)]))
            self.wrong(alone(*commands, history=[saw("b", moment, value), saw("b", moment, value + 1)]))

    def test_nought_where_the_key_isnt_there(self):
        self.right(alone(history=[saw("b", 5, 0)]))
        self.wrong(alone(history=[saw("b", 5, 1)]))

    def test_a_blind_is_nothing(self):
        self.right(alone(history=[("blind", 200, "ada", "b", 5)]))

    def test_a_dealing_chosen_counts_as_done(self):
        self.right(alone(("open", "d", PUT_B), ("choose", "d", 7), history=[saw("b", 7, 5)]))
        self.wrong(alone(("open", "d", PUT_B), ("choose", "d", 7), history=[saw("b", 7, 0)]))

    def test_a_plain_that_is_none(self):
        least = (("b", "least", 1),)
        self.wrong(alone(("open", "d", least), ("choose", "d", 7)))
        self.wrong(alone(("open", "d", least), ("choose", "d", 7), history=[saw("b", 6, 0)]))
        self.right(alone(("open", "d", least), ("choose", "d", 0)))
        later = [("open", "e", PUT_B), ("choose", "e", 8)]
        self.wrong(alone(("open", "d", least), ("choose", "d", 7), *later))
        self.right(alone(("open", "d", least), ("choose", "d", 9), *later))

    def test_a_plain_that_is_none_in_a_worlds_record(self):
        record = busy_record()
        old = command_of(record, "east", "open", "gift")
        self.wrong(with_command(record, "east", old, old[:2] + ((("b", "add", -1), ("x", "least", 3)),)))


class Ended(Checks):

    def test_the_verdict_chosen(self):
        self.right(alone(*done("d", PUT_B, 5, 7)))
        self.right(alone(*done("d", PUT_B, 5, 0)))

    def test_another_verdict_than_the_chosen_one(self):
        for chosen, ended in ((7, 8), (7, 6), (8, 7), (0, 7), (7, 0), (7, 4)):
            commands = done("d", PUT_B, 5, chosen)[:3]
            self.right(alone(*commands))
            self.wrong(alone(*commands, ("over", "d", ended)))

    def test_a_dealing_chosen_in_no_book(self):
        for verdict in (0, 7):
            self.wrong(alone(("open", "d", PUT_B), ("ready", "d", PUT_B, 5), ("over", "d", verdict)))
            self.wrong(alone(("ready", "d", PUT_B, 5), ("over", "d", verdict)))
        self.wrong(alone(("over", "d", 0)))

    def test_an_over_that_ends_nothing(self):
        self.right(alone(("over", "d", 7)))
        self.right(alone(*done("d", PUT_B, 5, 7), ("over", "d", 8)))

    def test_chosen_in_another_book(self):
        east = [("open", "d", BOTH), ("ready", "d", BOTH[:1], 5), ("choose", "d", 7), ("over", "d", 7)]
        for verdict, check in ((7, self.right), (8, self.wrong), (0, self.wrong)):
            west = [("ready", "d", BOTH[1:], 6), ("over", "d", verdict)]
            check(hand_made(("west", [("m", "")], west), ("east", [("", "m")], east)))
            check(hand_made(("east", [("", "m")], east), ("west", [("m", "")], west)))

    def test_chosen_behind_its_end(self):
        commands = done("d", PUT_B, 5, 7)
        self.right(alone(*commands[:2], commands[3], commands[2]))

    def test_of_a_worlds_record(self):
        record = busy_record()
        for group in ("east", "west"):
            for deal, verdict in (("pay", 1221), ("gift", 2719), ("loan", 0)):
                self.wrong(with_command(record, group, command_of(record, group, "over", deal), ("over", deal, verdict)))
        self.wrong(with_command(record, "west", ("over", "wish", 0), ("over", "wish", 2200)))
        self.wrong(with_command(record, "west", ("over", "wish", 0), ("over", "ghost", 0)))
        self.right(with_command(record, "west", ("over", "wish", 0), ("none",)))


class Put(Checks):

    def test_what_its_ops_make(self):
        for first in (0, 4, -3):
            ahead = done("c", (("b", "put", first), ("x", "put", 1)), 2, 3)
            self.right(alone(*ahead, *done("d", BOTH, 5, 7)))

    def test_another_value(self):
        for ready in ((("b", "add", 3), ("x", "put", 7)), (("b", "add", 2), ("x", "put", 8)),
                      (("b", "put", 3), ("x", "put", 7)), (("b", "add", 2), ("x", "add", 8))):
            self.wrong(alone(*done("d", BOTH, 5, 7, ready)))

    def test_the_same_value_by_another_op(self):
        self.right(alone(*done("d", BOTH, 5, 7, (("b", "put", 2), ("x", "add", 7)))))
        ahead = done("c", (("b", "put", 4),), 2, 3)
        self.right(alone(*ahead, *done("d", BOTH, 5, 7, (("b", "put", 6), ("x", "put", 7)))))
        self.wrong(alone(*ahead, *done("d", BOTH, 5, 7, (("b", "put", 2), ("x", "put", 7)))))

    def test_a_key_that_wasnt_put_though_it_was_ready(self):
        self.wrong(alone(*done("d", BOTH, 5, 7, (("b", "least", 0), ("x", "put", 7)))))
        self.wrong(alone(*done("d", (("b", "add", 0),), 5, 7, (("b", "least", 0),))))

    def test_a_key_put_that_it_only_asks_for(self):
        self.wrong(alone(*done("d", (("b", "least", 0),), 5, 7, (("b", "add", 1),))))
        self.wrong(alone(*done("d", (("b", "least", 0),), 5, 7, (("b", "add", 0),))))
        self.right(alone(*done("d", (("b", "least", 0),), 5, 7)))

    def test_a_key_put_that_it_doesnt_have(self):
        self.wrong(alone(*done("d", BOTH, 5, 7, (*BOTH, ("y", "put", 1)))))
        self.right(alone(*done("d", BOTH, 5, 7, (*BOTH, ("y", "least", 0)))))

    def test_only_the_keys_that_were_ready_there(self):
        self.right(alone(*done("d", BOTH, 5, 7, BOTH[:1])))
        self.wrong(alone(*done("d", BOTH, 5, 7, (("b", "add", 1),))))

    def test_beside_another_dealing_that_is_ready(self):
        other = ("ready", "e", (("x", "put", 1),), 4)
        self.right(alone(other, *done("d", BOTH, 5, 7, BOTH[:1])))
        self.wrong(alone(other, *done("d", BOTH, 5, 7, (("b", "add", 1),))))

    def test_ready_at_the_very_moment_and_later(self):
        self.right(alone(*done("d", BOTH, 7, 7)))
        self.wrong(alone(*done("d", BOTH, 7, 7, (("b", "add", 3), ("x", "put", 7)))))
        # A late one puts nothing, whatever its ops.
        self.right(alone(*done("d", BOTH, 8, 7)))
        self.right(alone(*done("d", BOTH, 8, 7, (("b", "add", 3), ("x", "put", 7)))))

    def test_a_dealing_refused_puts_nothing(self):
        self.right(alone(*done("d", BOTH, 5, 0, (("b", "add", 3), ("x", "put", 7)))))

    def test_the_ops_as_opened_in_another_book(self):
        for number, check in ((7, self.right), (8, self.wrong)):
            east = [("open", "d", BOTH), ("choose", "d", 7)]
            west = [("ready", "d", (("x", "put", number),), 5), ("over", "d", 7)]
            check(hand_made(("west", [("m", "")], west), ("east", [("", "m")], east)))

    def test_the_ops_of_the_first_open(self):
        for first, second, check in ((PUT_B, ADD_B, self.right), (ADD_B, PUT_B, self.wrong)):
            commands = [("open", "d", first), ("open", "d", second), ("ready", "d", PUT_B, 5)]
            check(alone(*commands, ("choose", "d", 7), ("over", "d", 7)))

    def test_upon_rows_that_came_with_a_move(self):
        rows = (("x", 2, 40),)
        west = [("take", "v", "m", "", 4, rows), *done("d", (("x", "add", 1),), 5, 7)]
        books = [("east", [("", "m")], []), ("west", [], west), ("north", [], [])]
        self.right(hand_made(*books))
        west[2] = ("ready", "d", (("x", "put", 1),), 5)
        self.wrong(hand_made(*books[:1], ("west", [], west)))

    def test_of_a_worlds_record(self):
        record = busy_record()
        for group, deal in (("east", "pay"), ("west", "pay"), ("west", "loan"), ("east", "gift")):
            old = command_of(record, group, "ready", deal)
            (key, kind, number), *rest = old[2]
            changed = with_command(record, group, old, old[:2] + (((key, kind, number + 1), *rest),) + old[3:])
            self.wrong(with_history(changed, []))


class Chairs(Checks):

    def test_two_chairs_in_one_term(self):
        record = busy_record()
        paper = next(paper for paper in record[2] if paper[:2] == ("chair", "east"))
        other = paper[:3] + ("cid",) + paper[4:]
        self.wrong(with_papers(record, [*record[2], other]))
        self.wrong(with_papers(record, [other, *record[2]]))

    def test_of_another_term_or_another_group_or_the_same_house(self):
        record = busy_record()
        paper = next(paper for paper in record[2] if paper[:2] == ("chair", "east"))
        self.right(with_papers(record, [*record[2], paper[:2] + (2, "cid") + paper[4:]]))
        self.right(with_papers(record, [*record[2], paper]))
        self.right(with_papers(record, [paper[:1] + ("west", 9, "cid") + paper[4:], *record[2]]))

    def half(self, kind, some, names):
        record = busy_record()
        number, teller = (7, "cid") if kind == "chair" else (2, 1)
        return with_papers(record, [*record[2], (kind, "east", number, teller, some, names)])

    def test_votes_and_houses_of_a_half_only(self):
        for kind in ("chair", "kept"):
            for some, names in (((), ("ada",)), (("ada",), ("ada", "bea")), (("ada",), ("ada", "bea", "cid")),
                                (("ada", "bea"), ("ada", "bea", "cid", "dot"))):
                self.wrong(self.half(kind, some, names))

    def test_votes_and_houses_of_more_than_half(self):
        for kind in ("chair", "kept"):
            for some, names in ((("ada",), ("ada",)), (("ada", "bea"), ("ada", "bea", "cid")),
                                (("ada", "bea", "cid"), ("ada", "bea", "cid", "dot"))):
                self.right(self.half(kind, some, names))

    def test_only_the_names_count(self):
        for kind in ("chair", "kept"):
            self.wrong(self.half(kind, ("ada", "yan", "zed"), ("ada", "bea", "cid")))
            self.right(self.half(kind, ("ada", "bea", "yan"), ("ada", "bea", "cid")))

    def test_of_a_worlds_papers(self):
        record = busy_record()
        for paper in record[2]:
            self.wrong(with_papers(record, swapped(record[2], paper, paper[:4] + (paper[4][:1], paper[5]))))


class Keeping(Checks):

    def with_kept(self, record, at, kept):
        rows = list(record[1])
        rows[at] = rows[at][:3] + (kept,)
        return with_logs(record, rows)

    def test_a_kept_that_is_no_place_of_its_log(self):
        record = busy_record()
        for at, row in enumerate(record[1]):
            self.wrong(self.with_kept(record, at, len(row[2])))
            self.wrong(self.with_kept(record, at, -1))
            for kept in (0, 1, row[3] - 1, row[3]):
                self.right(self.with_kept(record, at, kept))

    def test_a_short_log_with_a_kept_of_what_its_group_has_kept(self):
        record = busy_record()
        rows = list(record[1])
        rows[1] = rows[1][:2] + (rows[1][2][:5], 4)
        self.right(with_logs(record, rows))
        rows[1] = rows[1][:3] + (5,)
        self.wrong(with_logs(record, rows))

    def test_beyond_what_its_group_has_kept(self):
        record = busy_record()
        house, group, entries, kept = record[1][0]
        self.assertEqual((house, group, len(entries) - 1), ("ada", "east", kept + 1))
        self.wrong(self.with_kept(record, 0, kept + 1))

    def test_a_log_that_differs(self):
        record = busy_record()
        for at, (house, group, entries, kept) in enumerate(record[1]):
            for place in (0, 3, kept):
                for entry in ((7, entries[place][1]), (entries[place][0], ("mark", 77))):
                    changed = entries[:place] + [entry] + entries[place + 1:]
                    rows = list(record[1])
                    rows[at] = (house, group, changed, kept)
                    self.wrong(with_logs(record, rows))

    def test_a_log_that_differs_beyond_its_kept(self):
        record = alone(("mark", 5), ("mark", 6))
        other = log_of([("mark", 9)]) + [(2, ("none",))]
        for kept, check in ((0, self.right), (1, self.right), (2, self.wrong)):
            check(with_logs(record, [*record[1], ("bea", "north", other, kept)]))
            check(with_logs(record, [("aba", "north", other, kept), *record[1]]))

    def test_a_house_that_the_plan_doesnt_tell(self):
        record = alone(("mark", 5))
        for entries, kept, check in (
            (log_of([("mark", 5)]), 2, self.right), (log_of([("mark", 5)]), 3, self.wrong),
            (log_of([]) + [(2, ("mark", 5))], 2, self.wrong), (log_of([]) + [(2, ("mark", 5))], 1, self.right),
        ):
            check(with_logs(record, [*record[1], ("yan", "north", entries, kept)]))

    def test_without_papers_nothing_but_the_first_entry_is_kept(self):
        record = alone(("mark", 5))
        self.wrong(with_papers(record, []))
        self.right(with_papers(self.with_kept(record, 0, 0), []))

    def test_no_log_with_the_greatest_kept_entry(self):
        record = self.with_kept(alone(("mark", 5), ("mark", 6)), 0, 0)
        self.right(record)
        entries = record[1][0][2]
        for changed in ([], [("ada", "north", entries[:3], 0)],
                        [("ada", "north", entries[:3] + [(2, ("mark", 6))], 0)]):
            self.wrong(with_logs(record, changed))
        for place, term in ((4, 1), (3, 2), (3, 0)):
            paper = ("kept", "north", place, term, ("ada",), ("ada",))
            self.wrong(with_papers(record, [record[2][0], paper]))
        self.right(with_papers(record, [record[2][0], ("kept", "north", 2, 1, ("ada",), ("ada",))]))

    def test_of_a_group_that_the_plan_doesnt_tell(self):
        record = alone()
        paper = ("kept", "ghost", 1, 1, ("ada",), ("ada",))
        self.wrong(with_papers(record, [*record[2], paper]))
        row = ("ada", "ghost", log_of([]), 1)
        self.wrong(with_logs(record, [*record[1], row]))
        self.right((record[0], [*record[1], row], [*record[2], paper], []))

    def test_one_log_that_has_it_is_enough(self):
        record = self.with_kept(alone(("mark", 5), ("mark", 6)), 0, 0)
        entries = record[1][0][2]
        self.right(with_logs(record, [("ada", "north", entries[:2], 0), ("yan", "north", entries, 0)]))

    def test_an_earlier_paper_of_another_term(self):
        record = alone(("mark", 5), ("mark", 6))
        self.right(with_papers(record, [*record[2], ("kept", "north", 2, 7, ("ada",), ("ada",))]))

    def test_a_group_without_any_log(self):
        record = alone()
        groups, slacks, rest = record[0]
        self.wrong(with_plan(record, (groups + [("south", ("ada",), [])], slacks, rest)))
        self.wrong(((groups, slacks, rest), [], [], []))


class Owners(Checks):

    def test_a_key_owned_by_two_books(self):
        for low, high, check in (("m", "", self.right), ("l", "", self.wrong), ("", "", self.wrong),
                                 ("c", "d", self.wrong), ("", "b", self.wrong), ("lzz", "", self.wrong)):
            check(hand_made(("east", [("", "m")], []), ("west", [(low, high)], [])))
            check(hand_made(("west", [(low, high)], []), ("east", [("", "m")], [])))

    def test_taken_and_not_given(self):
        take = ("take", "v", "c", "m", 5, ())
        for east, check in (([], self.wrong), ([("cut", "c")], self.wrong),
                            ([("cut", "c"), ("give", "v", "c", "west", 5)], self.right)):
            check(hand_made(("east", [("", "m")], east), ("west", [("m", "")], [take])))

    def test_keys_owned_by_none(self):
        self.right(hand_made(("east", [("", "c")], []), ("west", [("m", "")], [])))
        self.right(hand_made(("east", [("", "c")], [("give", "v", "", "west", 5)]), ("west", [("m", "")], [])))

    def test_the_third_group(self):
        books = [("east", [("", "c")], []), ("west", [("c", "m")], []), ("south", [], []), ("north", [("m", "")], [])]
        self.right(hand_made(*books))
        for at in range(3):
            changed = list(books)
            changed[at] = (books[at][0], books[at][1] + [("q", "r")], [])
            self.wrong(hand_made(*changed))

    def test_of_a_worlds_record(self):
        record = busy_record()
        give = command_of(record, "east", "give", "trip")
        self.wrong(with_command(record, "east", give, ("none",)))
        (west, east), slacks, rest = record[0]
        self.wrong(with_plan(record, ([west[:2] + ([("b", "c"), ("m", "")],), east], slacks, rest)))
        self.right(with_plan(record, ([west[:2] + ([("m", "t"), ("t", "")],), east], slacks, rest)))


if __name__ == "__main__":
    unittest.main()
