"""Point 8: what a ledger tells of itself, and twins."""

import unittest

from farbooks.ledger import Ledger
from tests.states import played, rows_of, state_of

PUT_B = (("b", "put", 5),)
PUT_C = (("c", "put", 7),)
PUT_X = (("x", "put", 2),)
BOTH = (("b", "add", 3), ("c", "put", 4))


class Lists(unittest.TestCase):

    def test_owned_is_sorted_by_lows(self):
        ledger = Ledger([("", "b"), ("c", "m"), ("x", "")])
        ledger.apply(("cut", "d"))
        self.assertEqual(ledger.owned(), [("", "b"), ("c", "d"), ("d", "m"), ("x", "")])
        self.assertEqual(Ledger([]).owned(), [])

    def test_locks_are_sorted_by_keys(self):
        ledger = played([("", "")], [
            (("ready", "e", (("m", "put", 1), ("x", "least", 0)), 1), "ready"), (("ready", "f", BOTH, 2), "ready"),
            (("ready", "d", (("ca", "add", 1), ("n", "put", 0)), 3), "ready"),
        ])
        self.assertEqual(
            ledger.locks(),
            [("b", "f"), ("c", "f"), ("ca", "d"), ("m", "e"), ("n", "d"), ("x", "e")],
        )

    def test_ready_is_in_the_order_of_coming(self):
        ledger = played([("", "")], [
            (("ready", "f", PUT_X, 3), "ready"), (("ready", "d", PUT_C, 5), "ready"), (("ready", "e", PUT_B, 9), "ready"),
        ])
        self.assertEqual(ledger.ready(), [("f", 3, PUT_X), ("d", 5, PUT_C), ("e", 9, PUT_B)])
        ledger.apply(("over", "d", 0))
        self.assertEqual(ledger.ready(), [("f", 3, PUT_X), ("e", 9, PUT_B)])
        ledger.apply(("ready", "a", PUT_C, 12))
        self.assertEqual(ledger.ready(), [("f", 3, PUT_X), ("e", 9, PUT_B), ("a", 12, PUT_C)])

    def test_opened_is_in_the_order_of_opening(self):
        ledger = played([("", "")], [
            (("open", "f", PUT_X), "open"), (("open", "d", PUT_C), "open"), (("open", "e", BOTH), "open"),
        ])
        self.assertEqual(ledger.opened(), [("f", PUT_X), ("d", PUT_C), ("e", BOTH)])
        ledger.apply(("choose", "d", 4))
        self.assertEqual(ledger.opened(), [("f", PUT_X), ("e", BOTH)])
        ledger.apply(("open", "a", PUT_B))
        self.assertEqual(ledger.opened(), [("f", PUT_X), ("e", BOTH), ("a", PUT_B)])
        ledger.apply(("choose", "f", 0))
        self.assertEqual(ledger.opened(), [("e", BOTH), ("a", PUT_B)])

    def test_refused_is_in_the_order_of_refusing(self):
        ledger = played([("", "")], [
            (("ready", "x", PUT_B, 3), "ready"), (("ready", "f", PUT_B, 4), "no"),
            (("ready", "d", BOTH, 4), "no"), (("ready", "e", (("c", "least", 1),), 4), "no"),
        ])
        self.assertEqual(ledger.refused(), ["f", "d", "e"])
        ledger.apply(("over", "d", 0))
        self.assertEqual(ledger.refused(), ["f", "e"])
        ledger.apply(("ready", "a", PUT_B, 4))
        self.assertEqual(ledger.refused(), ["f", "e", "a"])

    def test_chosen_and_ended_are_the_verdict_or_none(self):
        ledger = played([("", "")], [
            (("open", "d", PUT_B), "open"), (("open", "e", PUT_C), "open"), (("open", "f", PUT_X), "open"),
            (("choose", "d", 8), "chosen"), (("choose", "e", 0), "chosen"),
            (("ready", "f", PUT_X, 2), "ready"), (("over", "f", 9), "over"), (("over", "e", 0), "over"),
        ])
        self.assertEqual([ledger.chosen(deal) for deal in ("d", "e", "f", "g")], [8, 0, None, None])
        self.assertEqual([ledger.ended(deal) for deal in ("d", "e", "f", "g")], [None, 0, 9, None])

    def test_given_is_in_the_order_of_giving(self):
        ledger = played([("", "c"), ("c", "m"), ("m", "")], [
            (("ready", "d", BOTH, 1), "ready"), (("over", "d", 2), "over"),
            (("ready", "e", PUT_C, 3), "ready"), (("over", "e", 3), "over"),
            (("give", "w", "m", "south", 4), "given"), (("give", "a", "", "east", 5), "given"),
            (("give", "v", "c", "south", 9), "given"),
        ])
        self.assertEqual(ledger.given(), [
            ("w", "m", "", "south", 4, ()),
            ("a", "", "c", "east", 5, (("b", 2, 3),)),
            ("v", "c", "m", "south", 9, (("c", 2, 4), ("c", 3, 7))),
        ])

    def test_the_rows_of_given_are_a_tuple_of_tuples(self):
        ledger = played([("", "")], [
            (("take", "v", "", "", 9, ()), "clash"), (("ready", "d", BOTH, 1), "ready"), (("over", "d", 2), "over"),
            (("give", "w", "", "south", 4), "given"),
        ])
        told = ledger.given()
        self.assertIsInstance(told, list)
        self.assertIsInstance(told[0], tuple)
        self.assertIsInstance(told[0][5], tuple)
        for row in told[0][5]:
            self.assertIsInstance(row, tuple)

    def test_what_was_given_stays_as_it_was(self):
        ledger = played([("", "")], [
            (("ready", "d", PUT_B, 1), "ready"), (("over", "d", 2), "over"), (("give", "v", "", "south", 4), "given"),
            (("take", "w", "", "", 8, (("b", 2, 5), ("b", 7, 1))), "taken"),
            (("ready", "e", PUT_B, 9), "ready"), (("over", "e", 9), "over"),
        ])
        self.assertEqual(ledger.given(), [("v", "", "", "south", 4, (("b", 2, 5),))])

    def test_taken_is_in_the_order_of_taking(self):
        ledger = played([], [
            (("take", "w", "m", "", 4, ()), "taken"), (("take", "a", "", "c", 9, ()), "taken"),
            (("take", "v", "c", "m", 2, ()), "taken"),
        ])
        self.assertEqual(ledger.taken(), ["w", "a", "v"])
        ledger.apply(("give", "x", "", "south", 10))
        self.assertEqual(ledger.taken(), ["w", "a", "v"])

    def test_value_is_the_newest_one(self):
        ledger = played([("", "")], [
            (("ready", "d", BOTH, 1), "ready"), (("over", "d", 2), "over"),
            (("ready", "e", (("b", "add", -9),), 3), "ready"), (("over", "e", 30), "over"),
            (("ready", "f", PUT_C, 40), "ready"),
        ])
        self.assertEqual([ledger.value(key) for key in ("a", "b", "c")], [0, -6, 4])

    def test_value_is_of_the_shelf_also_where_the_key_was_given(self):
        ledger = played([("", "")], [
            (("ready", "d", BOTH, 1), "ready"), (("over", "d", 2), "over"), (("give", "v", "", "south", 4), "given"),
        ])
        self.assertEqual([ledger.value(key) for key in ("a", "b", "c")], [0, 3, 4])

    def test_kinds(self):
        ledger = Ledger([("", "")])
        for told in (
            ledger.owned(), ledger.locks(), ledger.ready(), ledger.opened(), ledger.refused(),
            ledger.given(), ledger.taken(),
        ):
            self.assertIsInstance(told, list)
        self.assertIs(ledger.last().__class__, int)
        self.assertIs(ledger.value("a").__class__, int)
        self.assertIs(ledger.tells("a", 0).__class__, int)


class Twins(unittest.TestCase):

    def full(self):
        return played([("", "c"), ("c", "m"), ("m", "")], [
            (("ready", "g", BOTH, 1), "ready"), (("over", "g", 2), "over"),
            (("give", "v", "", "south", 3), "given"),
            (("take", "w", "", "b", 5, (("a", 1, 8),)), "taken"),
            (("open", "d", PUT_C), "open"), (("open", "e", PUT_X), "open"), (("choose", "e", 0), "chosen"),
            (("ready", "d", PUT_C, 7), "ready"), (("ready", "f", (("x", "least", 4),), 8), "no"),
        ])

    # One command for each part of a ledger, all of which change `full`.
    CHANGES = [
        (("open", "x", PUT_C), "open"),
        (("choose", "d", 9), "chosen"),
        (("over", "d", 9), "over"),
        (("over", "f", 0), "over"),
        (("ready", "x", PUT_X, 10), "ready"),
        (("ready", "x", (("x", "least", 1),), 10), "no"),
        (("mark", 30), "marked"),
        (("cut", "d"), "cut"),
        (("join", "m"), "joined"),
        (("give", "x", "m", "east", 11), "given"),
        (("take", "x", "b", "c", 11, (("b", 2, 3), ("b", 10, 6))), "taken"),
    ]

    def test_a_twin_has_all(self):
        ledger = self.full()
        twin = ledger.twin()
        self.assertIsInstance(twin, Ledger)
        self.assertIsNot(twin, ledger)
        self.assertEqual(state_of(twin), state_of(ledger))
        for command, word in self.CHANGES:
            one, other = self.full(), self.full().twin()
            self.assertEqual(one.apply(command), word)
            self.assertEqual(other.apply(command), word)
            self.assertEqual(state_of(one), state_of(other), command)

    def test_a_twin_has_all_the_rows(self):
        ledger = self.full()
        twin = ledger.twin()
        for one in (ledger, twin):
            one.apply(("over", "d", 0))
            one.apply(("take", "x", "b", "c", 11, (("b", 2, 3),)))
        self.assertEqual(rows_of(ledger), [("a", 1, 8), ("b", 2, 3), ("c", 2, 4)])
        self.assertEqual(rows_of(twin), rows_of(ledger))

    def test_a_twin_has_the_rows_of_the_least_and_the_greatest_key(self):
        ledger = Ledger([])
        ledger.apply(("take", "v", "", "", 9, (("a", 1, 2), ("m", 2, 3), ("zzzzzzzz", 3, 4))))
        twin = ledger.twin()
        self.assertEqual([twin.value(key) for key in ("a", "m", "zzzzzzzz")], [2, 3, 4])
        self.assertEqual([twin.tells(key, 2) for key in ("a", "m", "zzzzzzzz")], [2, 3, 0])

    def test_a_twin_goes_its_own_way(self):
        for command, word in self.CHANGES:
            ledger = self.full()
            before = state_of(ledger)
            twin = ledger.twin()
            self.assertEqual(twin.apply(command), word)
            self.assertEqual(state_of(ledger), before, command)
            self.assertNotEqual(state_of(twin), before, command)

    def test_a_ledger_goes_another_way_than_its_twin(self):
        for command, word in self.CHANGES:
            ledger = self.full()
            before = state_of(ledger)
            twin = ledger.twin()
            self.assertEqual(ledger.apply(command), word)
            self.assertEqual(state_of(twin), before, command)

    def test_a_twin_knows_what_its_ledger_knew(self):
        twin = self.full().twin()
        before = state_of(twin)
        for command, word in (
            (("open", "e", PUT_X), "known"), (("choose", "e", 3), "known"), (("over", "g", 3), "known"),
            (("ready", "g", BOTH, 20), "over"), (("ready", "d", PUT_C, 20), "known"),
            (("ready", "f", PUT_X, 20), "known"), (("give", "v", "m", "south", 20), "known"),
            (("take", "w", "b", "c", 20, ()), "known"), (("give", "y", "c", "south", 20), "held"),
        ):
            self.assertEqual(twin.apply(command), word)
        self.assertEqual(state_of(twin), before)


if __name__ == "__main__":
    unittest.main()
