"""Point 16: what a steward tells, woken, behind what is applied, and of notes heard."""

import unittest

from farbooks.ledger import Ledger
from farbooks.steward import Steward
from tests.states import played, state_of

ALL = [("", "")]
NOW = (100, 130)
PUT_B = (("b", "put", 5),)
PUT_C = (("c", "put", 7),)
PUT_BOTH = (("b", "put", 5), ("x", "add", 2))
MARK = ("mark", 100)


def opened(*deals, spans=ALL, last=0):
    commands = [(("mark", last), "marked")] + [(("open", deal, PUT_BOTH), "open") for deal in deals]
    return played(spans, commands)


def full_ledger():
    """Two dealings opened, two ready, two spans given."""
    return played([("", "c"), ("c", "m"), ("m", "t"), ("t", "")], [
        (("open", "e", PUT_BOTH), "open"), (("open", "d", PUT_B), "open"),
        (("ready", "g", (("n", "put", 1),), 4), "ready"), (("over", "g", 5), "over"),
        (("give", "w", "m", "south", 6), "given"), (("give", "v", "t", "east", 7), "given"),
        (("ready", "d", PUT_B, 9), "ready"), (("ready", "c", PUT_C, 11), "ready"),
    ])


FULL_NOTES = [
    ("want", "e", PUT_BOTH, "north"), ("want", "d", PUT_B, "north"), ("which", "d"), ("which", "c"),
    ("carry", "w", "m", "t", 6, (("n", 5, 1),), "south"), ("carry", "v", "t", "", 7, (), "east"),
]


class Woken(unittest.TestCase):

    def test_nothing_to_do(self):
        ledger = played(ALL, [(("mark", 100), "marked")])
        self.assertEqual(Steward("north").woken(ledger, [], NOW), ([], []))

    def test_all_notes_in_order(self):
        ledger = full_ledger()
        before = state_of(ledger)
        self.assertEqual(Steward("north").woken(ledger, [], NOW), ([MARK], FULL_NOTES))
        self.assertEqual(state_of(ledger), before)

    def test_a_note_of_each_kind_alone(self):
        self.assertEqual(
            Steward("north").woken(opened("d"), [], NOW), ([MARK], [("want", "d", PUT_BOTH, "north")])
        )
        ready = played(ALL, [(("ready", "d", PUT_B, 3), "ready")])
        self.assertEqual(Steward("north").woken(ready, [], NOW), ([MARK], [("which", "d")]))
        given = played(ALL, [(("give", "v", "", "south", 3), "given")])
        self.assertEqual(
            Steward("north").woken(given, [], NOW), ([MARK], [("carry", "v", "", "", 3, (), "south")])
        )

    def test_none_of_what_is_chosen_or_ended(self):
        ledger = played(ALL, [
            (("open", "d", PUT_B), "open"), (("choose", "d", 9), "chosen"), (("ready", "d", PUT_B, 5), "ready"),
            (("over", "d", 9), "over"),
        ])
        steward = Steward("north")
        for number in range(4):
            self.assertEqual(steward.woken(ledger, [], NOW), ([MARK], []))

    def test_mark_where_early_is_more_than_last(self):
        for last, commands in ((0, [MARK]), (99, [MARK]), (100, []), (101, []), (130, [])):
            self.assertEqual(Steward("north").woken(opened(last=last), [], NOW)[0], commands)

    def test_mark_is_pending(self):
        for pending, commands in (
            ([("mark", 100)], []), ([("mark", 3)], []), ([("mark", 500)], []), ([("cut", "g"), ("mark", 1)], []),
            ([("none",), ("ready", "d", PUT_B, 100)], [MARK]),
        ):
            self.assertEqual(Steward("north").woken(opened(), pending, NOW)[0], commands)

    def test_the_third_waking(self):
        ledger = opened("e", "d")
        steward = Steward("north")
        commands = [steward.woken(ledger, [], NOW)[0] for number in range(4)]
        tired = [("choose", "e", 0), ("choose", "d", 0), MARK]
        self.assertEqual(commands, [[MARK], [MARK], tired, tired])

    def test_the_third_waking_tells_its_want_too(self):
        steward = Steward("north")
        notes = [steward.woken(opened("d"), [], NOW)[1] for number in range(4)]
        self.assertEqual(notes, [[("want", "d", PUT_BOTH, "north")]] * 4)

    def test_counted_for_each_dealing(self):
        ledger = opened("d")
        steward = Steward("north")
        steward.woken(ledger, [], NOW)
        ledger.apply(("open", "e", PUT_B))
        commands = [steward.woken(ledger, [], NOW)[0] for number in range(3)]
        self.assertEqual(commands, [[MARK], [("choose", "d", 0), MARK], [("choose", "d", 0), ("choose", "e", 0), MARK]])
        ledger.apply(("choose", "d", 0))
        self.assertEqual(steward.woken(ledger, [], NOW)[0], [("choose", "e", 0), MARK])

    def test_a_choose_that_is_pending(self):
        ledger = opened("e", "d")
        steward = Steward("north")
        for number in range(2):
            steward.woken(ledger, [("choose", "d", 0)], NOW)
        self.assertEqual(steward.woken(ledger, [("choose", "e", 77)], NOW)[0], [("choose", "d", 0), MARK])
        self.assertEqual(steward.woken(ledger, [("over", "e", 0), ("open", "d", PUT_B)], NOW)[0],
                         [("choose", "e", 0), ("choose", "d", 0), MARK])
        self.assertEqual(steward.woken(ledger, [("choose", "d", 0), MARK, ("choose", "e", 1)], NOW)[0], [])

    def test_hearing_counts_as_no_waking(self):
        ledger = opened("d")
        steward = Steward("north")
        for number in range(5):
            steward.heard(ledger, [], ("which", "d"), NOW)
            steward.applied(ledger, ("open", "d", PUT_BOTH), "open", NOW)
        self.assertEqual(steward.woken(ledger, [], NOW)[0], [MARK])

    def test_a_steward_made_anew_counts_anew(self):
        ledger = opened("d")
        steward = Steward("north")
        for number in range(3):
            steward.woken(ledger, [], NOW)
        self.assertEqual(Steward("north").woken(ledger, [], NOW)[0], [MARK])


class Applied(unittest.TestCase):

    def tells(self, command, word, notes, ledger=None):
        ledger = ledger if ledger is not None else Ledger(ALL)
        self.assertEqual(Steward("north").applied(ledger, command, word, NOW), ([], notes), (command, word))

    def test_ready(self):
        command = ("ready", "d", PUT_BOTH, 44)
        self.tells(command, "ready", [("answer", "d", "north", 44, ("b", "x"))])
        self.tells(command, "no", [("answer", "d", "north", 0, ())])
        for word in ("over", "known", "away", "early"):
            self.tells(command, word, [])

    def test_choose(self):
        self.tells(("choose", "d", 55), "chosen", [("over", "d", 55)])
        self.tells(("choose", "d", 0), "chosen", [("over", "d", 0)])
        for word in ("known", "shut"):
            self.tells(("choose", "d", 55), word, [])

    def test_give(self):
        ledger = full_ledger()
        self.tells(("give", "w", "m", "south", 6), "given", FULL_NOTES[4:5], ledger)
        self.tells(("give", "v", "t", "east", 7), "given", FULL_NOTES[5:], ledger)
        for word in ("known", "away", "held", "early"):
            self.tells(("give", "w", "m", "south", 6), word, [], ledger)

    def test_open(self):
        self.tells(("open", "d", PUT_BOTH), "open", [("want", "d", PUT_BOTH, "north")])
        for word in ("known", "away"):
            self.tells(("open", "d", PUT_BOTH), word, [])

    def test_nothing_behind_the_others(self):
        for command, word in (
            (("over", "d", 5), "over"), (("over", "d", 5), "late"), (("over", "d", 5), "unready"),
            (("mark", 5), "marked"), (("cut", "g"), "cut"), (("join", "g"), "joined"),
            (("take", "v", "", "", 5, ()), "taken"), (("none",), "none"), (("seats", ("ada",)), "none"),
        ):
            self.tells(command, word, [])


class HeardWant(unittest.TestCase):

    def heard(self, ledger, ops, pending=(), now=NOW, deal="d"):
        return Steward("south").heard(ledger, list(pending), ("want", deal, ops, "north"), now)

    def test_the_ops_whose_keys_are_owned(self):
        ops = (("a", "least", 0), ("b", "put", 5), ("m", "add", 1), ("x", "add", 2))
        for spans, owned in (
            (ALL, ops), ([("", "m")], ops[:2]), ([("b", "c"), ("n", "")], ops[1::2]), ([("x", "y")], ops[3:]),
        ):
            self.assertEqual(self.heard(Ledger(spans), ops), ([("ready", "d", owned, 100)], []))

    def test_none_is_owned(self):
        self.assertEqual(self.heard(Ledger([("c", "x")]), PUT_BOTH), ([], []))
        self.assertEqual(self.heard(Ledger([]), PUT_BOTH), ([], []))

    def test_the_moment_by_early_and_last(self):
        for last, early, moment in ((0, 100, 100), (99, 100, 100), (100, 100, 101), (250, 100, 251), (0, 0, 1)):
            ledger = played(ALL, [(("mark", last), "marked")])
            self.assertEqual(self.heard(ledger, PUT_B, now=(early, early + 30))[0], [("ready", "d", PUT_B, moment)])

    def test_the_moment_by_pending_moments(self):
        for command, moment in (
            (("ready", "e", PUT_C, 120), 121), (("give", "v", "", "east", 122), 123),
            (("take", "v", "", "m", 124, ()), 125), (("mark", 126), 127), (("over", "e", 128), 129),
            (("over", "e", 0), 100), (("choose", "e", 200), 100), (("open", "e", PUT_C), 100), (("none",), 100),
            (("mark", 98), 100), (("mark", 99), 100), (("mark", 100), 101), (("seats", ("ada",)), 100),
            (("cut", "g"), 100), (("join", "g"), 100),
        ):
            pending = [("none",), command, ("mark", 50)]
            self.assertEqual(self.heard(Ledger(ALL), PUT_B, pending)[0], [("ready", "d", PUT_B, moment)], command)

    def test_the_greatest_of_several(self):
        ledger = played(ALL, [(("mark", 130), "marked")])
        pending = [("ready", "e", PUT_C, 140), ("over", "f", 160), ("mark", 150)]
        self.assertEqual(self.heard(ledger, PUT_B, pending)[0], [("ready", "d", PUT_B, 161)])
        self.assertEqual(self.heard(ledger, PUT_B, pending[:1], now=(300, 300))[0], [("ready", "d", PUT_B, 300)])

    def test_a_ready_that_is_pending(self):
        for ops in (PUT_B, PUT_C):
            self.assertEqual(self.heard(Ledger(ALL), PUT_B, [("ready", "d", ops, 50)]), ([], []))
        self.assertEqual(self.heard(Ledger(ALL), PUT_B, [("ready", "e", PUT_B, 50), ("over", "d", 0)])[0],
                         [("ready", "d", PUT_B, 100)])

    def test_ready_here(self):
        ledger = played([("", "m")], [(("ready", "d", PUT_B, 7), "ready"), (("ready", "c", PUT_C, 9), "ready")])
        answer = ("answer", "d", "south", 7, ("b",))
        self.assertEqual(self.heard(ledger, PUT_BOTH), ([], [answer]))
        self.assertEqual(self.heard(ledger, PUT_BOTH, [("ready", "d", PUT_B, 7)]), ([], [answer]))

    def test_ready_here_and_more_keys_owned_since(self):
        ledger = played([("", "m")], [
            (("ready", "d", PUT_B, 7), "ready"), (("take", "v", "m", "", 9, ()), "taken"),
        ])
        self.assertEqual(self.heard(ledger, PUT_BOTH), ([], [("answer", "d", "south", 7, ("b",))]))

    def test_refused_here(self):
        ledger = played(ALL, [(("ready", "d", (("b", "least", 1),), 7), "no")])
        self.assertEqual(self.heard(ledger, PUT_B), ([], [("answer", "d", "south", 0, ())]))

    def test_refused_here_and_none_owned_since(self):
        ledger = played(ALL, [
            (("ready", "d", (("b", "least", 1),), 7), "no"), (("give", "v", "", "east", 8), "given"),
        ])
        self.assertEqual(self.heard(ledger, PUT_B), ([], []))

    def test_ended_here(self):
        for verdict in (0, 7, 9):
            ledger = played(ALL, [(("ready", "d", PUT_B, 7), "ready"), (("over", "d", verdict), "over")])
            self.assertEqual(self.heard(ledger, PUT_B), ([], []))


class HeardOthers(unittest.TestCase):

    def heard(self, ledger, note, pending=()):
        return Steward("south").heard(ledger, list(pending), note, NOW)

    def test_which(self):
        ledger = played(ALL, [
            (("open", "d", PUT_B), "open"), (("choose", "d", 9), "chosen"), (("open", "e", PUT_B), "open"),
            (("choose", "e", 0), "chosen"), (("open", "f", PUT_B), "open"),
        ])
        self.assertEqual(self.heard(ledger, ("which", "d")), ([], [("over", "d", 9)]))
        self.assertEqual(self.heard(ledger, ("which", "e"), [("over", "e", 0)]), ([], [("over", "e", 0)]))
        for deal in ("f", "g"):
            self.assertEqual(self.heard(ledger, ("which", deal)), ([], []))

    def test_over(self):
        ledger = played(ALL, [
            (("ready", "d", PUT_B, 7), "ready"), (("ready", "e", PUT_B, 8), "no"), (("open", "f", PUT_C), "open"),
            (("ready", "g", PUT_C, 9), "ready"), (("over", "g", 9), "over"),
        ])
        for verdict in (0, 3, 30):
            self.assertEqual(self.heard(ledger, ("over", "d", verdict)), ([("over", "d", verdict)], []))
            for deal in ("e", "f", "g", "h"):
                self.assertEqual(self.heard(ledger, ("over", deal, verdict)), ([], []))
        self.assertEqual(self.heard(ledger, ("over", "d", 5), [("over", "d", 5)]), ([], []))
        self.assertEqual(
            self.heard(ledger, ("over", "d", 5), [("over", "e", 5), ("ready", "d", PUT_B, 7)]),
            ([("over", "d", 5)], []),
        )

    def test_carry(self):
        rows = (("n", 5, 1),)
        note = ("carry", "w", "m", "t", 6, rows, "south")
        ledger = Ledger([("", "c")])
        self.assertEqual(self.heard(ledger, note), ([("take", "w", "m", "t", 6, rows)], []))
        self.assertEqual(self.heard(ledger, note[:6] + ("east",)), ([], []))
        self.assertEqual(self.heard(ledger, note, [("take", "w", "m", "t", 6, rows)]), ([], []))
        self.assertEqual(
            self.heard(ledger, note, [("take", "v", "t", "", 6, ()), ("give", "w", "m", "east", 9)]),
            ([("take", "w", "m", "t", 6, rows)], []),
        )
        ledger.apply(("take", "w", "m", "t", 6, rows))
        self.assertEqual(self.heard(ledger, note), ([], []))


class HeardAnswer(unittest.TestCase):

    def setUp(self):
        self.ledger = opened("d", "e")
        self.steward = Steward("north")

    def heard(self, moment, keys, group="south", deal="d", pending=(), now=NOW):
        note = ("answer", deal, group, moment, keys)
        return self.steward.heard(self.ledger, list(pending), note, now)

    def test_moment_nought(self):
        self.assertEqual(self.heard(0, ()), ([("choose", "d", 0)], []))
        self.assertEqual(self.heard(0, (), pending=[("choose", "d", 0)]), ([], []))
        self.assertEqual(self.heard(0, (), pending=[("choose", "e", 0)]), ([("choose", "d", 0)], []))

    def test_moment_nought_is_not_noted(self):
        self.heard(0, ("b", "x"))
        self.assertEqual(self.heard(120, ("b",)), ([], []))
        self.assertEqual(self.heard(121, ("x",)), ([("choose", "d", 130)], []))

    def test_keys_that_are_not_all(self):
        for number in range(3):
            self.assertEqual(self.heard(120, ("b",)), ([], []))
            self.assertEqual(self.heard(120, ("x",), deal="e"), ([], []))
        self.assertEqual(self.heard(120, ("x",), "east"), ([("choose", "d", 130)], []))

    def test_keys_that_are_all(self):
        self.assertEqual(self.heard(120, ("b", "x")), ([("choose", "d", 130)], []))

    def test_the_verdict_by_late_and_moments(self):
        for moment, late, verdict in ((120, 130, 130), (130, 130, 130), (131, 130, 131), (500, 130, 500)):
            self.steward = Steward("north")
            self.assertEqual(self.heard(moment, ("b", "x"), now=(50, late))[0], [("choose", "d", verdict)])

    def test_the_verdict_is_at_least_one(self):
        self.assertEqual(self.heard(1, ("b", "x"), now=(0, 0))[0], [("choose", "d", 1)])

    def test_late_as_the_last_answer_is_heard(self):
        self.heard(120, ("b",), now=(900, 999))
        self.assertEqual(self.heard(121, ("x",), now=(100, 140))[0], [("choose", "d", 140)])

    def test_all_moments_count(self):
        self.heard(300, ("b",))
        self.heard(200, ("b",))
        self.assertEqual(self.heard(250, ("x",), "east")[0], [("choose", "d", 300)])
        self.assertEqual(self.heard(210, ("x",), "east")[0], [("choose", "d", 300)])
        self.assertEqual(self.heard(310, ("x",), "east")[0], [("choose", "d", 310)])

    def test_the_same_group_twice_with_other_keys(self):
        self.heard(300, ("b",))
        self.assertEqual(self.heard(301, ("x",))[0], [("choose", "d", 301)])

    def test_noted_while_a_choose_is_pending(self):
        self.assertEqual(self.heard(400, ("b", "x"), pending=[("choose", "d", 0)]), ([], []))
        self.assertEqual(self.heard(200, ("b",)), ([("choose", "d", 400)], []))

    def test_of_a_dealing_not_opened_or_chosen(self):
        self.assertEqual(self.heard(120, ("b", "x"), deal="f"), ([], []))
        self.assertEqual(self.heard(0, (), deal="f"), ([], []))
        self.ledger.apply(("choose", "d", 99))
        self.assertEqual(self.heard(120, ("b", "x")), ([], []))
        self.assertEqual(self.heard(0, ()), ([], []))

    def test_not_noted_ahead_of_the_opening(self):
        self.heard(120, ("b",), deal="f")
        self.ledger.apply(("open", "f", PUT_BOTH))
        self.assertEqual(self.heard(120, ("x",), deal="f"), ([], []))

    def test_a_steward_made_anew_has_noted_nothing(self):
        self.heard(120, ("b",))
        self.steward = Steward("north")
        self.assertEqual(self.heard(121, ("x",)), ([], []))

    def test_nothing_handed_in_is_changed(self):
        pending = [("mark", 5), ("choose", "e", 0)]
        before = state_of(self.ledger)
        self.steward.heard(self.ledger, pending, ("answer", "d", "south", 9, ("b", "x")), NOW)
        self.steward.heard(self.ledger, pending, ("want", "d", PUT_BOTH, "north"), NOW)
        self.steward.woken(self.ledger, pending, NOW)
        self.steward.applied(self.ledger, ("choose", "d", 5), "chosen", NOW)
        self.assertEqual((pending, state_of(self.ledger)), ([("mark", 5), ("choose", "e", 0)], before))


if __name__ == "__main__":
    unittest.main()
