"""Points 2 and 3: what is handed in stays as it is, what is told is the asker's own."""

import copy
import unittest

from farbooks.ledger import Ledger
from farbooks.shelf import Shelf
from farbooks.spans import all_kept, clashes, cut_at, has_key, joined_at, span_with
from tests.states import played, state_of

PUT_B = (("b", "put", 5),)
PUT_C = (("c", "put", 7),)


def lists_in(told):
    """All lists in an answer, the answer too, each as often as it stands there."""
    found = [told] if isinstance(told, list) else []
    if isinstance(told, (list, tuple)):
        for part in told:
            found.extend(lists_in(part))
    return found


def full_ledger():
    return played([("", "c"), ("c", "m"), ("m", "")], [
        (("ready", "g", (("b", "add", 3), ("c", "put", 4)), 1), "ready"), (("over", "g", 2), "over"),
        (("give", "v", "", "south", 3), "given"), (("take", "w", "", "b", 5, (("a", 1, 8),)), "taken"),
        (("open", "d", PUT_C), "open"), (("ready", "d", PUT_C, 7), "ready"),
        (("ready", "f", (("x", "least", 4),), 8), "no"),
    ])


def full_shelf():
    shelf = Shelf()
    shelf.take([("b", 3, 1), ("a", 2, 2), ("b", 1, 9)])
    return shelf


LEDGER_LISTS = (
    lambda ledger: ledger.owned(),
    lambda ledger: ledger.locks(),
    lambda ledger: ledger.ready(),
    lambda ledger: ledger.opened(),
    lambda ledger: ledger.refused(),
    lambda ledger: ledger.given(),
    lambda ledger: ledger.taken(),
)

SPANS_LISTS = (
    lambda spans: cut_at(spans, "d"),
    lambda spans: cut_at(spans, "b"),
    lambda spans: cut_at(spans, "a"),
    lambda spans: joined_at(spans, "m"),
    lambda spans: joined_at(spans, "d"),
)


class Told(unittest.TestCase):

    def spoil(self, answer):
        for one in lists_in(answer):
            one.append("spoilt")
            one.reverse()

    def check(self, holder, ask):
        """Answers are alike each time, share no list, and spoiling one changes nothing."""
        first, second = ask(holder), ask(holder)
        self.assertEqual(first, second)
        self.assertNotEqual(first, [])
        every = lists_in(first) + lists_in(second)
        self.assertEqual(len(every), len({id(one) for one in every}))
        kept = copy.deepcopy(second)
        self.spoil(first)
        self.assertEqual(second, kept)
        self.assertEqual(ask(holder), kept)

    def test_lists_of_a_ledger(self):
        for ask in LEDGER_LISTS:
            ledger = full_ledger()
            before = state_of(ledger)
            self.check(ledger, ask)
            self.assertEqual(state_of(ledger), before)

    def test_lists_of_a_ledger_that_has_nothing(self):
        for ask in LEDGER_LISTS[1:]:
            ledger = Ledger([])
            ask(ledger).append("spoilt")
            self.assertEqual(ask(ledger), [])

    def test_no_list_is_shared_by_two_questions(self):
        ledger = full_ledger()
        twin = ledger.twin()
        answers = [ask(holder) for ask in LEDGER_LISTS for holder in (ledger, twin)]
        every = lists_in(answers)
        self.assertEqual(len(every), len({id(one) for one in every}))

    def test_rows_of_a_shelf(self):
        for span in (("", ""), ("b", "")):
            self.check(full_shelf(), lambda shelf: shelf.rows(span))

    def test_lists_of_spans(self):
        for ask in SPANS_LISTS:
            spans = [("", "c"), ("c", "m"), ("m", "")]
            self.check(spans, ask)
            self.assertIsNot(ask(spans), spans)
            self.spoil(ask(spans))
            self.assertEqual(spans, [("", "c"), ("c", "m"), ("m", "")])
        for ask in SPANS_LISTS:
            spans = []
            ask(spans).append("spoilt")
            self.assertEqual(spans, [])

    def test_what_was_told_stays_as_it_was(self):
        ledger = full_ledger()
        answers = [ask(ledger) for ask in LEDGER_LISTS]
        kept = copy.deepcopy(answers)
        for command in (
            ("open", "x", PUT_C), ("choose", "d", 9), ("over", "d", 9), ("over", "f", 0), ("mark", 30), ("cut", "d"),
            ("join", "d"), ("give", "x", "m", "east", 31), ("take", "x", "m", "n", 31, ()),
            ("ready", "e", PUT_C, 40), ("ready", "y", PUT_C, 41),
        ):
            ledger.apply(command)
        self.assertEqual(answers, kept)
        for ask, before in zip(LEDGER_LISTS, kept):
            self.assertNotEqual(ask(ledger), before)
        shelf = full_shelf()
        rows = shelf.rows(("", ""))
        shelf.put("a", 1, 1)
        self.assertEqual(rows, [("a", 2, 2), ("b", 1, 9), ("b", 3, 1)])

    def test_the_same_question_is_answered_the_same(self):
        ledger = full_ledger()
        self.assertEqual(state_of(ledger), state_of(ledger))
        shelf = full_shelf()
        for ask in (
            lambda: shelf.at("b", 2), lambda: shelf.at("z", 2), lambda: shelf.newest("b"), lambda: shelf.newest("z"),
            lambda: shelf.rows(("", "")),
        ):
            self.assertEqual(ask(), ask())
        self.assertEqual(shelf.rows(("", "")), [("a", 2, 2), ("b", 1, 9), ("b", 3, 1)])


class HandedIn(unittest.TestCase):

    def test_spans_stay_as_they_were(self):
        spans = [("", "c"), ("c", "m"), ("n", "")]
        for ask in SPANS_LISTS + (
            lambda told: span_with(told, "d"), lambda told: all_kept(told), lambda told: clashes(told, ("m", "n")),
            lambda told: has_key(told[0], "b"),
        ):
            ask(spans)
            self.assertEqual(spans, [("", "c"), ("c", "m"), ("n", "")])

    def test_spans_of_a_ledger_stay_as_they_were(self):
        spans = [("", "c"), ("c", "m"), ("n", "")]
        ledger = Ledger(spans)
        for command, word in (
            (("cut", "d"), "cut"), (("join", "d"), "joined"), (("give", "v", "", "south", 2), "given"),
            (("take", "w", "m", "n", 3, ()), "taken"), (("ready", "d", PUT_C, 4), "ready"),
        ):
            self.assertEqual(ledger.apply(command), word)
            self.assertEqual(spans, [("", "c"), ("c", "m"), ("n", "")])

    def test_changing_the_spans_later_changes_nothing(self):
        spans = [("", "c"), ("c", "m")]
        ledger = Ledger(spans)
        before = state_of(ledger)
        spans.append(("m", ""))
        spans.pop(0)
        self.assertEqual(state_of(ledger), before)
        self.assertEqual(ledger.owned(), [("", "c"), ("c", "m")])

    def test_rows_stay_as_they_were_and_are_not_held(self):
        rows = [("b", 3, 1), ("a", 2, 2), ("b", 3, 4)]
        shelf = Shelf()
        shelf.take(rows)
        self.assertEqual(rows, [("b", 3, 1), ("a", 2, 2), ("b", 3, 4)])
        rows.append(("c", 1, 1))
        rows[0] = ("b", 3, 9)
        self.assertEqual(shelf.rows(("", "")), [("a", 2, 2), ("b", 3, 1)])

    def test_rows_of_a_take_stay_as_they_were_and_are_not_held(self):
        rows = [("a", 2, 2), ("b", 3, 1)]
        ledger = Ledger([])
        ledger.apply(("take", "v", "", "m", 5, rows))
        self.assertEqual(rows, [("a", 2, 2), ("b", 3, 1)])
        rows.append(("c", 1, 1))
        rows[0] = ("a", 2, 9)
        self.assertEqual([ledger.value(key) for key in ("a", "b", "c")], [2, 1, 0])
        ledger.apply(("give", "w", "", "south", 6))
        self.assertEqual(ledger.given()[0][5], (("a", 2, 2), ("b", 3, 1)))

    def test_what_was_told_may_be_handed_in_again(self):
        ledger = full_ledger()
        again = Ledger(ledger.owned())
        again.apply(("cut", "d"))
        self.assertEqual(ledger.owned(), [("", "b"), ("c", "m"), ("m", "")])
        deal, moment, ops = ledger.ready()[0]
        self.assertEqual(again.apply(("ready", deal, ops, moment)), "ready")
        self.assertEqual(again.ready(), ledger.ready())
        self.assertEqual(joined_at(cut_at(ledger.owned(), "d"), "d"), ledger.owned())


class Numbers(unittest.TestCase):

    def test_numbers_of_ops_at_their_bounds(self):
        most = 10 ** 9
        ledger = played([("", "")], [
            (("ready", "d", (("a", "put", most), ("b", "put", -most)), 1), "ready"), (("over", "d", 1), "over"),
            (("ready", "e", (("a", "add", most), ("b", "add", -most)), 2), "ready"), (("over", "e", 2), "over"),
            (("ready", "f", (("a", "least", most), ("b", "least", -most)), 3), "no"),
        ])
        self.assertEqual([ledger.value("a"), ledger.value("b")], [2 * most, -2 * most])

    def test_moments_at_their_bounds(self):
        ledger = played([("", "")], [
            (("ready", "d", PUT_B, 10 ** 12 - 1), "ready"), (("over", "d", 10 ** 12), "over"),
            (("ready", "e", PUT_B, 10 ** 12), "early"),
        ])
        self.assertEqual([ledger.tells("b", 10 ** 12 - 1), ledger.tells("b", 10 ** 12)], [0, 5])

    def test_eight_ops(self):
        ops = tuple((key, "add", 1) for key in ("a", "aa", "ab", "b", "c", "d", "e", "zzzzzzzz"))
        ledger = played([("", "")], [(("ready", "d", ops, 1), "ready"), (("over", "d", 1), "over")])
        self.assertEqual([ledger.value(op[0]) for op in ops], [1] * 8)

    def test_a_key_of_which_nothing_was_put_or_added_is_nought(self):
        ledger = played([("", "")], [(("ready", "d", (("a", "least", 0),), 1), "ready"), (("over", "d", 2), "over")])
        self.assertEqual([ledger.value("a"), ledger.tells("a", 2), ledger.tells("z", 1)], [0, 0, 0])


if __name__ == "__main__":
    unittest.main()
