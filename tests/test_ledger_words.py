"""Point 7: each command's words, and what comes of them."""

import unittest

from farbooks.ledger import Ledger
from tests.states import played, rows_of, state_of

PUT_B = (("b", "put", 5),)
PUT_C = (("c", "put", 7),)
BOTH = (("b", "add", 3), ("c", "put", 4))


class Words(unittest.TestCase):

    def unchanged(self, ledger, command, word):
        before = state_of(ledger)
        self.assertEqual(ledger.apply(command), word, command)
        self.assertEqual(state_of(ledger), before, command)

    def changed_only(self, ledger, command, word, **changes):
        """The word is told, and of the ledger's state just the named parts are as told."""
        before = state_of(ledger)
        self.assertEqual(ledger.apply(command), word, command)
        after = state_of(ledger)
        for name, value in changes.items():
            self.assertEqual(after[name], value, (command, name))
        for name in before:
            # What it tells of the past is tested by itself.
            if name not in changes and name != "tells":
                self.assertEqual(after[name], before[name], (command, name))


class Fresh(Words):

    def test_a_new_ledger(self):
        ledger = Ledger([("b", "d"), ("m", "")])
        self.assertEqual(ledger.owned(), [("b", "d"), ("m", "")])
        self.assertEqual(ledger.last(), 0)
        for told in (ledger.locks(), ledger.ready(), ledger.opened(), ledger.refused(), ledger.given(), ledger.taken()):
            self.assertEqual(told, [])
        self.assertIsNone(ledger.chosen("d"))
        self.assertIsNone(ledger.ended("d"))
        self.assertEqual(ledger.value("b"), 0)

    def test_it_hangs_on_its_spans_and_commands_alone(self):
        commands = [
            (("open", "d", BOTH), "open"), (("ready", "d", BOTH, 4), "ready"), (("choose", "d", 6), "chosen"),
            (("over", "d", 6), "over"), (("cut", "c"), "cut"), (("give", "v", "c", "south", 9), "given"),
            (("take", "w", "c", "", 12, (("c", 6, 4), ("c", 11, 2))), "taken"), (("join", "c"), "joined"),
        ]
        one = played([("", "")], commands)
        asked = Ledger([("", "")])
        for command, word in commands:
            state_of(asked)
            self.assertEqual(asked.apply(command), word)
            state_of(asked)
        self.assertEqual(state_of(one), state_of(asked))
        self.assertEqual(rows_of(one), [("b", 6, 3), ("c", 6, 4), ("c", 11, 2)])


class Open(Words):

    def test_open(self):
        ledger = Ledger([("b", "d")])
        self.changed_only(ledger, ("open", "d", PUT_B), "open", opened=[("d", PUT_B)])

    def test_only_the_first_key_must_be_owned(self):
        ledger = Ledger([("b", "c")])
        self.changed_only(ledger, ("open", "d", BOTH), "open", opened=[("d", BOTH)])
        self.unchanged(Ledger([("c", "d")]), ("open", "d", BOTH), "away")

    def test_known(self):
        ledger = played([("b", "d")], [(("open", "d", PUT_B), "open")])
        self.unchanged(ledger, ("open", "d", PUT_B), "known")
        self.unchanged(ledger, ("open", "d", PUT_C), "known")
        ledger.apply(("choose", "d", 0))
        self.unchanged(ledger, ("open", "d", PUT_B), "known")
        ledger.apply(("over", "d", 0))
        self.unchanged(ledger, ("open", "d", PUT_B), "known")

    def test_away(self):
        for key in ("a", "d", "z"):
            self.unchanged(Ledger([("b", "d")]), ("open", "d", ((key, "put", 1),)), "away")
        self.unchanged(Ledger([]), ("open", "d", PUT_B), "away")

    def test_known_ahead_of_away(self):
        ledger = played([("b", "d")], [(("open", "d", PUT_B), "open"), (("give", "v", "b", "south", 1), "given")])
        self.unchanged(ledger, ("open", "d", PUT_B), "known")
        self.unchanged(ledger, ("open", "e", PUT_B), "away")

    def test_a_deal_that_was_away_can_be_opened_later(self):
        ledger = Ledger([])
        ledger.apply(("open", "d", PUT_B))
        ledger.apply(("take", "v", "b", "d", 3, ()))
        self.changed_only(ledger, ("open", "d", PUT_B), "open", opened=[("d", PUT_B)])


class Ready(Words):

    def test_ready(self):
        ledger = Ledger([("b", "d")])
        self.changed_only(
            ledger, ("ready", "d", BOTH, 4), "ready",
            locks=[("b", "d"), ("c", "d")], ready=[("d", 4, BOTH)], last=4,
        )
        self.assertEqual([ledger.value("b"), ledger.value("c")], [0, 0])
        self.assertIsNone(ledger.ended("d"))

    def test_it_need_not_be_opened_here(self):
        ledger = played([("b", "d")], [(("ready", "d", BOTH, 4), "ready")])
        self.assertEqual(ledger.opened(), [])

    def test_over(self):
        ledger = played([("b", "d")], [(("over", "d", 0), "over")])
        self.unchanged(ledger, ("ready", "d", BOTH, 4), "over")
        done = played([("b", "d")], [(("ready", "d", BOTH, 4), "ready"), (("over", "d", 5), "over")])
        self.unchanged(done, ("ready", "d", BOTH, 9), "over")
        late = played([("b", "d")], [(("ready", "d", BOTH, 4), "ready"), (("over", "d", 3), "late")])
        self.unchanged(late, ("ready", "d", BOTH, 9), "over")

    def test_over_ahead_of_all(self):
        ledger = played([("b", "c")], [
            (("over", "d", 0), "over"), (("mark", 9), "marked"), (("ready", "e", PUT_B, 10), "ready"),
        ])
        self.unchanged(ledger, ("ready", "d", BOTH, 9), "over")
        self.unchanged(ledger, ("ready", "d", PUT_B, 11), "over")

    def test_known_where_ready(self):
        ledger = played([("b", "d")], [(("ready", "d", PUT_B, 4), "ready")])
        self.unchanged(ledger, ("ready", "d", PUT_B, 5), "known")
        self.unchanged(ledger, ("ready", "d", PUT_C, 5), "known")

    def test_known_where_refused_for_good(self):
        ledger = played([("b", "d")], [
            (("ready", "e", PUT_B, 4), "ready"), (("ready", "d", PUT_B, 5), "no"), (("over", "e", 0), "over"),
        ])
        self.assertEqual(ledger.locks(), [])
        self.unchanged(ledger, ("ready", "d", PUT_B, 6), "known")
        self.unchanged(ledger, ("ready", "d", PUT_C, 6), "known")

    def test_known_ahead_of_away_early_and_no(self):
        ledger = played([("b", "c")], [(("ready", "d", PUT_B, 4), "ready"), (("ready", "e", PUT_B, 5), "no")])
        for deal in ("d", "e"):
            self.unchanged(ledger, ("ready", deal, BOTH, 9), "known")
            self.unchanged(ledger, ("ready", deal, PUT_B, 4), "known")

    def test_away(self):
        ledger = Ledger([("b", "c"), ("m", "")])
        self.unchanged(ledger, ("ready", "d", BOTH, 4), "away")
        self.unchanged(ledger, ("ready", "d", (("a", "put", 1), ("b", "put", 1)), 4), "away")
        self.unchanged(ledger, ("ready", "d", (("b", "put", 1), ("ca", "least", 0), ("m", "put", 1)), 4), "away")
        self.assertEqual(ledger.apply(("ready", "d", (("b", "put", 1), ("m", "put", 1)), 4)), "ready")

    def test_away_ahead_of_early_and_no(self):
        ledger = played([("b", "c")], [(("ready", "e", PUT_B, 4), "ready")])
        self.unchanged(ledger, ("ready", "d", BOTH, 4), "away")
        self.unchanged(ledger, ("ready", "d", BOTH, 5), "away")
        self.unchanged(ledger, ("ready", "d", (("b", "least", 9), ("c", "put", 1)), 5), "away")

    def test_early(self):
        ledger = played([("b", "d")], [(("mark", 7), "marked")])
        self.unchanged(ledger, ("ready", "d", PUT_B, 6), "early")
        self.unchanged(ledger, ("ready", "d", PUT_B, 7), "early")
        self.unchanged(Ledger([("b", "d")]), ("ready", "d", PUT_B, 0), "early")
        self.assertEqual(ledger.apply(("ready", "d", PUT_B, 8)), "ready")

    def test_early_ahead_of_no(self):
        ledger = played([("b", "d")], [(("ready", "e", PUT_B, 4), "ready")])
        self.unchanged(ledger, ("ready", "d", PUT_B, 4), "early")
        self.unchanged(ledger, ("ready", "d", (("c", "least", 1),), 4), "early")

    def test_no_where_a_key_is_locked(self):
        for locked in (PUT_B, PUT_C, (("b", "least", 0),), (("c", "add", 1),)):
            ledger = played([("b", "d")], [(("ready", "e", locked, 4), "ready")])
            self.changed_only(ledger, ("ready", "d", BOTH, 5), "no", refused=["d"])
            self.assertIsNone(ledger.ended("d"))
            self.assertEqual(ledger.last(), 4)

    def test_no_where_a_least_is_not_met(self):
        ledger = played([("b", "d")], [(("ready", "e", PUT_B, 4), "ready"), (("over", "e", 4), "over")])
        self.changed_only(ledger, ("ready", "d", (("b", "least", 6),), 5), "no", refused=["d"])
        self.changed_only(ledger, ("ready", "f", (("b", "put", 9), ("c", "least", 1)), 5), "no", refused=["d", "f"])
        self.changed_only(
            ledger, ("ready", "g", (("b", "least", 5), ("c", "least", 0)), 5), "ready",
            locks=[("b", "g"), ("c", "g")], ready=[("g", 5, (("b", "least", 5), ("c", "least", 0)))], last=5,
        )

    def test_a_least_is_met_by_a_greater_value(self):
        ledger = played([("b", "d")], [(("ready", "e", PUT_B, 4), "ready"), (("over", "e", 4), "over")])
        self.assertEqual(ledger.apply(("ready", "d", (("b", "least", 3), ("c", "least", -9)), 5)), "ready")

    def test_a_least_below_nought(self):
        ledger = played([("b", "d")], [(("ready", "e", (("b", "add", -2),), 4), "ready"), (("over", "e", 6), "over")])
        self.assertEqual(ledger.value("b"), -2)
        self.assertEqual(ledger.apply(("ready", "d", (("b", "least", -1),), 7)), "no")
        self.assertEqual(ledger.apply(("ready", "f", (("b", "least", -2),), 7)), "ready")

    def test_a_least_looks_at_the_newest_value(self):
        ledger = played([("b", "d")], [
            (("ready", "e", PUT_B, 4), "ready"), (("over", "e", 4), "over"),
            (("ready", "f", (("b", "put", 1),), 6), "ready"), (("over", "f", 6), "over"),
        ])
        self.assertEqual(ledger.apply(("ready", "d", (("b", "least", 2),), 7)), "no")

    def test_put_and_add_are_not_held_to_their_numbers(self):
        ledger = Ledger([("b", "d")])
        self.assertEqual(ledger.apply(("ready", "d", (("b", "add", 8), ("c", "put", 9)), 1)), "ready")


class Choose(Words):

    def test_chosen(self):
        ledger = played([("b", "d")], [(("open", "d", PUT_B), "open"), (("open", "e", PUT_C), "open")])
        self.changed_only(ledger, ("choose", "d", 9), "chosen", opened=[("e", PUT_C)], chosen={"d": 9})
        self.changed_only(ledger, ("choose", "e", 0), "chosen", opened=[], chosen={"d": 9, "e": 0})

    def test_known(self):
        ledger = played([("b", "d")], [(("open", "d", PUT_B), "open"), (("choose", "d", 0), "chosen")])
        self.unchanged(ledger, ("choose", "d", 9), "known")
        self.unchanged(ledger, ("choose", "d", 0), "known")

    def test_shut(self):
        ledger = played([("b", "d")], [(("ready", "d", PUT_B, 1), "ready")])
        self.unchanged(ledger, ("choose", "d", 9), "shut")
        self.unchanged(ledger, ("choose", "e", 0), "shut")

    def test_keys_may_be_away_by_then(self):
        ledger = played([("b", "d")], [(("open", "d", PUT_B), "open"), (("give", "v", "b", "south", 1), "given")])
        self.assertEqual(ledger.apply(("choose", "d", 9)), "chosen")


class Over(Words):

    def test_done(self):
        ops = (("b", "add", 3), ("c", "put", 4), ("ca", "least", 0))
        ledger = played([("b", "d")], [(("ready", "d", ops, 4), "ready")])
        self.changed_only(
            ledger, ("over", "d", 9), "over", locks=[], ready=[], last=9, ended={"d": 9}, value={"b": 3, "c": 4},
        )
        self.assertEqual(rows_of(ledger), [("b", 9, 3), ("c", 9, 4)])

    def test_add_grows_the_newest_value_and_put_takes_its_stead(self):
        ledger = played([("b", "d")], [
            (("ready", "d", (("b", "put", 10), ("c", "put", 10)), 1), "ready"), (("over", "d", 1), "over"),
            (("ready", "e", (("b", "add", -4), ("c", "put", -4)), 2), "ready"), (("over", "e", 3), "over"),
            (("ready", "f", (("b", "add", 1), ("c", "add", 0)), 4), "ready"), (("over", "f", 6), "over"),
        ])
        self.assertEqual(
            rows_of(ledger),
            [("b", 1, 10), ("b", 3, 6), ("b", 6, 7), ("c", 1, 10), ("c", 3, -4), ("c", 6, -4)],
        )

    def test_last_stays_where_it_is_greater(self):
        ledger = played([("b", "d")], [(("ready", "d", PUT_B, 4), "ready"), (("mark", 20), "marked")])
        self.changed_only(ledger, ("over", "d", 9), "over", locks=[], ready=[], ended={"d": 9}, value={"b": 5})
        self.assertEqual(ledger.last(), 20)
        self.assertEqual(rows_of(ledger), [("b", 9, 5)])

    def test_other_dealings_keep_their_locks(self):
        ledger = played([("b", "d")], [(("ready", "d", PUT_B, 4), "ready"), (("ready", "e", PUT_C, 5), "ready")])
        self.changed_only(
            ledger, ("over", "d", 9), "over",
            locks=[("c", "e")], ready=[("e", 5, PUT_C)], last=9, ended={"d": 9}, value={"b": 5},
        )

    def test_by_nought_of_one_that_is_ready(self):
        ledger = played([("b", "d")], [(("ready", "d", PUT_B, 4), "ready")])
        self.changed_only(ledger, ("over", "d", 0), "over", locks=[], ready=[], ended={"d": 0})
        self.assertEqual(rows_of(ledger), [])
        self.assertEqual(ledger.last(), 4)

    def test_by_nought_of_one_that_is_refused(self):
        ledger = played([("b", "d")], [
            (("ready", "d", PUT_B, 4), "ready"), (("ready", "e", PUT_B, 5), "no"), (("ready", "f", PUT_B, 5), "no"),
        ])
        self.changed_only(ledger, ("over", "e", 0), "over", refused=["f"], ended={"e": 0})

    def test_by_nought_of_one_that_was_never_here(self):
        ledger = Ledger([("b", "d")])
        self.changed_only(ledger, ("over", "d", 0), "over", ended={"d": 0})

    def test_opening_and_choosing_stay_as_they_are(self):
        ledger = played([("b", "d")], [(("open", "d", PUT_B), "open"), (("ready", "d", PUT_B, 4), "ready")])
        self.changed_only(ledger, ("over", "d", 4), "over", locks=[], ready=[], ended={"d": 4}, value={"b": 5})
        self.assertEqual(ledger.opened(), [("d", PUT_B)])

    def test_known(self):
        ledger = played([("b", "d")], [(("ready", "d", PUT_B, 4), "ready"), (("over", "d", 5), "over")])
        for verdict in (0, 3, 5, 9):
            self.unchanged(ledger, ("over", "d", verdict), "known")

    def test_known_ahead_of_unready(self):
        ledger = played([("b", "d")], [(("over", "d", 0), "over")])
        self.unchanged(ledger, ("over", "d", 9), "known")

    def test_unready(self):
        ledger = played([("b", "d")], [(("ready", "d", PUT_B, 4), "ready"), (("ready", "e", PUT_B, 5), "no")])
        self.unchanged(ledger, ("over", "e", 9), "unready")
        self.unchanged(ledger, ("over", "f", 9), "unready")
        self.unchanged(ledger, ("over", "f", 1), "unready")
        ledger.apply(("open", "g", PUT_B))
        self.unchanged(ledger, ("over", "g", 9), "unready")

    def test_late(self):
        ledger = played([("b", "d")], [
            (("ready", "e", PUT_B, 1), "ready"), (("over", "e", 2), "over"), (("ready", "d", BOTH, 6), "ready"),
        ])
        self.changed_only(ledger, ("over", "d", 5), "late", locks=[], ready=[], ended={"e": 2, "d": 5})
        self.assertEqual(ledger.last(), 6)
        self.assertEqual(rows_of(ledger), [("b", 2, 5)])
        self.unchanged(ledger, ("over", "d", 9), "known")

    def test_not_late_at_its_own_moment(self):
        ledger = played([("b", "d")], [(("ready", "d", PUT_B, 6), "ready")])
        self.changed_only(ledger, ("over", "d", 6), "over", locks=[], ready=[], ended={"d": 6}, value={"b": 5})
        self.assertEqual(rows_of(ledger), [("b", 6, 5)])

    def test_keys_can_be_locked_anew(self):
        for verdict in (0, 3, 9):
            ledger = played([("b", "d")], [(("ready", "d", PUT_B, 6), "ready")])
            ledger.apply(("over", "d", verdict))
            self.assertEqual(ledger.apply(("ready", "e", PUT_B, 10)), "ready")


class Mark(Words):

    def test_marked(self):
        ledger = Ledger([("b", "d")])
        self.changed_only(ledger, ("mark", 5), "marked", last=5)
        self.changed_only(ledger, ("mark", 10 ** 12), "marked", last=10 ** 12)

    def test_last_never_falls(self):
        ledger = played([("b", "d")], [(("mark", 5), "marked")])
        for moment in (0, 4, 5):
            self.unchanged(ledger, ("mark", moment), "marked")


class CutAndJoin(Words):

    def test_cut(self):
        ledger = Ledger([("", "m")])
        self.changed_only(ledger, ("cut", "c"), "cut", owned=[("", "c"), ("c", "m")])
        self.changed_only(ledger, ("cut", "ca"), "cut", owned=[("", "c"), ("c", "ca"), ("ca", "m")])

    def test_cut_away(self):
        for key in ("a", "m", "z"):
            self.unchanged(Ledger([("b", "m")]), ("cut", key), "away")
        self.unchanged(Ledger([]), ("cut", "b"), "away")

    def test_cut_known(self):
        self.unchanged(Ledger([("", "c"), ("c", "")]), ("cut", "c"), "known")
        self.unchanged(Ledger([("", "c"), ("c", "")]), ("cut", "a"), "known")
        self.unchanged(Ledger([("a", "c")]), ("cut", "a"), "known")

    def test_join(self):
        ledger = Ledger([("", "c"), ("c", "m"), ("n", "")])
        self.changed_only(ledger, ("join", "c"), "joined", owned=[("", "m"), ("n", "")])

    def test_join_away(self):
        for key in ("a", "b", "c", "f", "m", "n", "z"):
            self.unchanged(Ledger([("b", "c"), ("d", "m"), ("n", "")]), ("join", key), "away")
        self.unchanged(Ledger([]), ("join", "b"), "away")

    def test_locks_and_values_outlast_them(self):
        ledger = played([("", "m")], [
            (("ready", "d", PUT_B, 1), "ready"), (("over", "d", 2), "over"), (("ready", "e", BOTH, 3), "ready"),
        ])
        self.changed_only(ledger, ("cut", "c"), "cut", owned=[("", "c"), ("c", "m")])
        self.changed_only(ledger, ("join", "c"), "joined", owned=[("", "m")])
        self.assertEqual(ledger.locks(), [("b", "e"), ("c", "e")])
        self.assertEqual(ledger.tells("b", 2), 5)


class Give(Words):

    def ledger(self):
        return played([("", "c"), ("c", "m"), ("n", "")], [
            (("ready", "d", BOTH, 1), "ready"), (("over", "d", 2), "over"),
            (("ready", "e", (("c", "add", 1),), 3), "ready"), (("over", "e", 4), "over"),
        ])

    def test_given(self):
        ledger = self.ledger()
        rows = (("c", 2, 4), ("c", 4, 5))
        self.changed_only(
            ledger, ("give", "v", "c", "south", 6), "given",
            owned=[("", "c"), ("n", "")], given=[("v", "c", "m", "south", 6, rows)], last=6,
        )
        self.changed_only(
            ledger, ("give", "w", "", "east", 7), "given",
            owned=[("n", "")],
            given=[("v", "c", "m", "south", 6, rows), ("w", "", "c", "east", 7, (("b", 2, 3),))], last=7,
        )
        self.changed_only(
            ledger, ("give", "x", "n", "east", 9), "given",
            owned=[], given=ledger.given() + [("x", "n", "", "east", 9, ())], last=9,
        )
        self.assertEqual(ledger.apply(("ready", "f", PUT_C, 20)), "away")

    def test_known(self):
        ledger = self.ledger()
        ledger.apply(("give", "v", "c", "south", 6))
        self.unchanged(ledger, ("give", "v", "n", "south", 9), "known")
        self.unchanged(ledger, ("give", "v", "n", "east", 9), "known")

    def test_known_ahead_of_away_held_and_early(self):
        ledger = self.ledger()
        ledger.apply(("give", "v", "c", "south", 6))
        self.unchanged(ledger, ("give", "v", "c", "south", 9), "known")
        self.unchanged(ledger, ("give", "v", "n", "south", 6), "known")
        ledger.apply(("ready", "f", (("n", "put", 1),), 7))
        self.unchanged(ledger, ("give", "v", "n", "south", 9), "known")

    def test_known_also_behind_a_taking_back(self):
        ledger = self.ledger()
        ledger.apply(("give", "v", "c", "south", 6))
        ledger.apply(("take", "w", "c", "m", 8, (("c", 2, 4), ("c", 4, 5))))
        self.unchanged(ledger, ("give", "v", "c", "south", 9), "known")

    def test_a_move_that_was_taken_is_not_one_that_was_given(self):
        ledger = Ledger([])
        ledger.apply(("take", "v", "c", "m", 8, ()))
        self.assertEqual(ledger.apply(("give", "v", "c", "south", 9)), "given")
        ledger.apply(("give", "w", "x", "south", 9))
        self.assertEqual(ledger.given(), [("v", "c", "m", "south", 9, ())])

    def test_away(self):
        for low in ("a", "b", "ca", "d", "m", "z"):
            self.unchanged(self.ledger(), ("give", "v", low, "south", 6), "away")
        self.unchanged(Ledger([("b", "")]), ("give", "v", "", "south", 6), "away")
        self.unchanged(Ledger([]), ("give", "v", "", "south", 6), "away")

    def test_away_ahead_of_early_and_held(self):
        self.unchanged(self.ledger(), ("give", "v", "d", "south", 1), "away")
        ledger = played([("b", "")], [(("ready", "d", (("d", "put", 1),), 1), "ready")])
        self.unchanged(ledger, ("give", "v", "d", "south", 1), "away")

    def test_held(self):
        ledger = self.ledger()
        ledger.apply(("ready", "f", (("ca", "least", 0),), 6))
        self.unchanged(ledger, ("give", "v", "c", "south", 9), "held")
        self.assertEqual(ledger.twin().apply(("give", "v", "", "south", 9)), "given")
        self.assertEqual(ledger.twin().apply(("give", "v", "n", "south", 9)), "given")
        ledger.apply(("over", "f", 0))
        self.assertEqual(ledger.apply(("give", "v", "c", "south", 9)), "given")

    def test_held_by_its_first_key(self):
        ledger = self.ledger()
        ledger.apply(("ready", "f", PUT_C, 6))
        self.unchanged(ledger, ("give", "v", "c", "south", 9), "held")
        self.assertEqual(ledger.apply(("give", "v", "", "south", 9)), "given")

    def test_held_ahead_of_early(self):
        ledger = self.ledger()
        ledger.apply(("ready", "f", PUT_C, 6))
        self.unchanged(ledger, ("give", "v", "c", "south", 6), "held")

    def test_early(self):
        ledger = self.ledger()
        for moment in (0, 3, 4):
            self.unchanged(ledger, ("give", "v", "c", "south", moment), "early")
        self.assertEqual(ledger.apply(("give", "v", "c", "south", 5)), "given")


class Take(Words):

    def test_taken(self):
        ledger = played([("m", "")], [(("mark", 3), "marked")])
        rows = (("c", 4, 8), ("c", 7, -1), ("d", 2, 6))
        self.changed_only(
            ledger, ("take", "v", "c", "m", 9, rows), "taken",
            owned=[("c", "m"), ("m", "")], taken=["v"], last=9, value={"c": -1, "d": 6},
        )
        self.assertEqual(rows_of(ledger), list(rows))

    def test_spans_stay_sorted(self):
        ledger = Ledger([("c", "d")])
        ledger.apply(("take", "v", "m", "", 1, ()))
        ledger.apply(("take", "w", "", "b", 2, ()))
        self.changed_only(
            ledger, ("take", "x", "d", "m", 3, ()), "taken",
            owned=[("", "b"), ("c", "d"), ("d", "m"), ("m", "")], taken=["v", "w", "x"], last=3,
        )

    def test_last_stays_where_it_is_greater(self):
        ledger = played([("m", "")], [(("mark", 20), "marked")])
        self.changed_only(
            ledger, ("take", "v", "c", "m", 9, (("c", 4, 8),)), "taken",
            owned=[("c", "m"), ("m", "")], taken=["v"], value={"c": 8},
        )
        self.assertEqual(ledger.last(), 20)
        self.assertEqual(ledger.tells("c", 20), 8)

    def test_known(self):
        ledger = played([("m", "")], [(("take", "v", "c", "m", 9, ()), "taken")])
        self.unchanged(ledger, ("take", "v", "a", "b", 12, (("a", 3, 3),)), "known")

    def test_known_ahead_of_clash(self):
        ledger = played([("m", "")], [(("take", "v", "c", "m", 9, ()), "taken")])
        self.unchanged(ledger, ("take", "v", "c", "m", 9, ()), "known")

    def test_known_also_where_it_was_given_on(self):
        ledger = played([], [(("take", "v", "c", "m", 9, ()), "taken"), (("give", "w", "c", "south", 10), "given")])
        self.unchanged(ledger, ("take", "v", "c", "m", 9, ()), "known")

    def test_a_move_that_was_given_is_not_one_that_was_taken(self):
        ledger = played([("c", "m")], [(("give", "v", "c", "south", 9), "given")])
        self.assertEqual(ledger.apply(("take", "v", "c", "m", 10, ())), "taken")

    def test_clash(self):
        for low, high in (("", ""), ("c", "d"), ("b", "ca"), ("", "n"), ("d", "f"), ("lz", ""), ("c", "m")):
            self.unchanged(Ledger([("c", "m"), ("x", "")]), ("take", "v", low, high, 9, ((low or "a", 3, 3),)), "clash")
        self.assertEqual(Ledger([("c", "m"), ("x", "")]).apply(("take", "v", "m", "x", 9, ())), "taken")
        self.assertEqual(Ledger([("c", "m"), ("x", "")]).apply(("take", "v", "", "c", 9, ())), "taken")

    def test_what_was_refused_by_a_clash_can_be_taken_later(self):
        ledger = played([("c", "m")], [
            (("take", "v", "c", "m", 9, ()), "clash"), (("give", "w", "c", "south", 10), "given"),
        ])
        self.assertEqual(ledger.apply(("take", "v", "c", "m", 12, ())), "taken")

    def test_new_values_stand_on_the_rows_taken(self):
        ledger = played([], [
            (("take", "v", "c", "m", 9, (("c", 4, 8),)), "taken"),
            (("ready", "d", (("c", "add", 2), ("d", "least", 0)), 10), "ready"), (("over", "d", 11), "over"),
        ])
        self.assertEqual(rows_of(ledger), [("c", 4, 8), ("c", 11, 10)])

    def test_rows_may_be_those_that_were_given(self):
        north = played([("", "")], [
            (("ready", "d", BOTH, 1), "ready"), (("over", "d", 2), "over"), (("give", "v", "", "south", 5), "given"),
        ])
        south = Ledger([])
        move, low, high, group, moment, rows = north.given()[0]
        self.assertEqual(group, "south")
        self.assertEqual(south.apply(("take", move, low, high, moment, rows)), "taken")
        self.assertEqual([south.tells("b", 2), south.tells("c", 2), south.tells("b", 1)], [3, 4, 0])


class Nothing(Words):

    def test_none_and_seats(self):
        ledger = played([("b", "d")], [(("open", "d", PUT_B), "open"), (("ready", "d", PUT_B, 4), "ready")])
        self.unchanged(ledger, ("none",), "none")
        self.unchanged(ledger, ("seats", ("ann", "bob")), "none")
        self.unchanged(ledger, ("seats", ("ann",)), "none")


if __name__ == "__main__":
    unittest.main()
