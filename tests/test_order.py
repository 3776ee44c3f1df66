"""Point 21: the one order of the dealings, and what the table is when they are done in it."""

import unittest

from farbooks.order import order_of, plain
from tests.records import alone, busy_record, done, hand_made, with_logs, with_papers

PUT_B = (("b", "put", 5),)
ADD_B = (("b", "add", 3),)
PUT_X = (("x", "put", 7),)
BOTH = (("b", "add", 2), ("x", "least", 7))


class Order(unittest.TestCase):

    def test_of_a_world(self):
        self.assertEqual(order_of(busy_record()), [
            (1220, "pay", (("b", "put", 5), ("x", "add", 2))),
            (1720, "loan", (("b", "add", 4), ("g", "least", 0), ("y", "put", 3))),
            (2720, "gift", (("b", "add", -1), ("x", "least", 2))),
        ])

    def test_none(self):
        self.assertEqual(order_of(alone()), [])
        self.assertIsInstance(order_of(alone()), list)

    def test_a_dealing_chosen_is_done_whether_it_has_ended_or_not(self):
        for commands in (done("d", PUT_B, 5, 7), done("d", PUT_B, 5, 7)[:3], [("open", "d", PUT_B), ("choose", "d", 7)]):
            self.assertEqual(order_of(alone(*commands)), [(7, "d", PUT_B)])

    def test_a_dealing_refused(self):
        self.assertEqual(order_of(alone(("open", "d", PUT_B), ("choose", "d", 0), ("choose", "d", 7))), [])

    def test_a_dealing_not_chosen_yet(self):
        self.assertEqual(order_of(alone(("open", "d", PUT_B), ("ready", "d", PUT_B, 5))), [])

    def test_a_dealing_ended_but_never_chosen(self):
        self.assertEqual(order_of(alone(("ready", "d", PUT_B, 5), ("over", "d", 7))), [])

    def test_a_choosing_that_isnt_kept(self):
        told = alone(("open", "d", PUT_B), ("choose", "d", 7))
        self.assertEqual(order_of(with_papers(told, [("kept", "north", 2, 1, ("ada",), ("ada",))])), [])

    def test_a_dealing_opened_twice_has_the_ops_of_the_first_open(self):
        told = alone(("open", "d", PUT_B), ("open", "d", PUT_X), ("choose", "d", 7), ("choose", "d", 9))
        self.assertEqual(order_of(told), [(7, "d", PUT_B)])

    def test_an_open_that_was_told_away_is_none(self):
        commands = [("open", "d", PUT_X), ("open", "d", PUT_B), ("choose", "d", 7)]
        told = hand_made(("east", [("", "m")], commands), ("west", [("m", "")], []))
        self.assertEqual(order_of(told), [(7, "d", PUT_B)])

    def test_sorted_by_verdicts_then_deals(self):
        commands = [("open", deal, PUT_B) for deal in ("e", "d", "f", "g")]
        commands += [("choose", "e", 9), ("choose", "d", 9), ("choose", "f", 12), ("choose", "g", 8)]
        self.assertEqual([row[:2] for row in order_of(alone(*commands))], [(8, "g"), (9, "d"), (9, "e"), (12, "f")])

    def test_of_all_groups(self):
        told = hand_made(
            ("west", [("m", "")], done("e", PUT_X, 3, 4)), ("east", [("", "m")], done("d", PUT_B, 5, 7)),
        )
        self.assertEqual(order_of(told), [(4, "e", PUT_X), (7, "d", PUT_B)])

    def test_of_the_other_groups_where_no_log_has_what_one_has_kept(self):
        told = hand_made(
            ("west", [("m", "")], done("e", PUT_X, 3, 4)), ("east", [("", "m")], done("d", PUT_B, 5, 7)),
        )
        self.assertEqual(order_of(with_logs(told, told[1][:1])), [(4, "e", PUT_X)])


class Plain(unittest.TestCase):

    def test_of_an_empty_order(self):
        for moment in (0, 5, 10 ** 12):
            self.assertEqual(plain([], moment), [])

    def test_ahead_of_at_and_behind_a_dealings_moment(self):
        order = [(7, "d", PUT_B)]
        self.assertEqual([plain(order, moment) for moment in (0, 6, 7, 8)], [[], [], [("b", 5)], [("b", 5)]])

    def test_put_and_add_one_behind_the_other(self):
        order = [(3, "d", ADD_B), (5, "e", PUT_B), (7, "f", ADD_B), (9, "g", (("b", "add", -20),))]
        self.assertEqual(
            [plain(order, moment) for moment in (2, 3, 5, 7, 9)], [[], [("b", 3)], [("b", 5)], [("b", 8)], [("b", -12)]],
        )

    def test_dealings_of_one_moment_in_their_order(self):
        self.assertEqual(plain([(7, "d", PUT_B), (7, "e", ADD_B)], 7), [("b", 8)])
        self.assertEqual(plain([(7, "d", ADD_B), (7, "e", PUT_B)], 7), [("b", 5)])

    def test_sorted_by_keys(self):
        order = [(3, "d", PUT_X), (4, "e", (("bb", "put", 2),)), (5, "f", (("a", "put", 9), ("b", "put", 1)))]
        self.assertEqual(plain(order, 9), [("a", 9), ("b", 1), ("bb", 2), ("x", 7)])
        self.assertIsInstance(plain(order, 9)[0], tuple)

    def test_keys_put_to_nought_are_there(self):
        order = [(3, "d", (("b", "put", 0), ("c", "add", 0))), (4, "e", PUT_X), (5, "f", (("x", "add", -7),))]
        self.assertEqual(plain(order, 5), [("b", 0), ("c", 0), ("x", 0)])

    def test_a_least_puts_nothing(self):
        self.assertEqual(plain([(3, "d", (("b", "least", 0), ("c", "least", -5)))], 3), [])

    def test_a_least_that_is_met_by_its_turn(self):
        self.assertEqual(plain([(3, "d", PUT_X), (4, "e", BOTH)], 4), [("b", 2), ("x", 7)])

    def test_none_by_a_least_that_isnt_met(self):
        order = [(3, "d", (("x", "put", 6),)), (4, "e", BOTH), (5, "f", PUT_X)]
        self.assertEqual([plain(order, moment) for moment in (2, 3)], [[], [("x", 6)]])
        self.assertEqual([plain(order, moment) for moment in (4, 5, 9)], [None, None, None])

    def test_none_though_the_value_comes_later(self):
        self.assertIsNone(plain([(3, "e", BOTH), (4, "d", PUT_X)], 4))
        self.assertIsNone(plain([(3, "d", (("b", "least", 1),))], 3))
        self.assertIsNone(plain([(3, "d", PUT_X), (3, "e", (("x", "least", 8),))], 3))

    def test_of_a_world(self):
        order = order_of(busy_record())
        self.assertEqual(plain(order, 1219), [])
        self.assertEqual(plain(order, 1220), [("b", 5), ("x", 2)])
        self.assertEqual(plain(order, 2719), [("b", 9), ("x", 2), ("y", 3)])
        self.assertEqual(plain(order, 2720), [("b", 8), ("x", 2), ("y", 3)])


if __name__ == "__main__":
    unittest.main()
