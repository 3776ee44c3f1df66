"""Point 9: what a ledger tells of a key at a moment, ever after."""

import random
import unittest

from farbooks.ledger import Ledger
from tests.states import played

PUT_B = (("b", "put", 5),)


def told(ledger, key, moments):
    return [ledger.tells(key, moment) for moment in moments]


class Owned(unittest.TestCase):

    def test_up_to_last_and_beyond_it(self):
        ledger = played([("", "m")], [
            (("ready", "d", PUT_B, 3), "ready"), (("over", "d", 4), "over"), (("mark", 6), "marked"),
        ])
        self.assertEqual(told(ledger, "b", range(9)), [0, 0, 0, 0, 5, 5, 5, None, None])
        self.assertEqual(told(ledger, "a", range(9)), [0, 0, 0, 0, 0, 0, 0, None, None])

    def test_a_new_ledger_knows_the_moment_nought_alone(self):
        self.assertEqual(told(Ledger([("", "m")]), "b", (0, 1, 10 ** 12)), [0, None, None])

    def test_a_key_that_is_neither_owned_nor_given(self):
        ledger = played([("b", "m")], [(("mark", 6), "marked")])
        for key in ("a", "m", "z"):
            self.assertEqual(told(ledger, key, range(9)), [None] * 9)
        self.assertEqual(told(ledger, "b", (0, 6)), [0, 0])

    def test_a_key_that_was_taken(self):
        ledger = played([], [(("mark", 6), "marked"), (("take", "v", "b", "m", 4, (("b", 2, 5),)), "taken")])
        self.assertEqual(told(ledger, "b", range(8)), [0, 0, 5, 5, 5, 5, 5, None])
        self.assertEqual(told(ledger, "a", range(8)), [None] * 8)

    def test_by_last_of_each_command(self):
        for command in (
            ("ready", "e", (("c", "put", 1),), 7), ("give", "v", "m", "south", 7), ("mark", 7),
            ("take", "w", "n", "", 7, ()),
        ):
            ledger = Ledger([("", "m"), ("m", "n")])
            ledger.apply(command)
            self.assertEqual(told(ledger, "b", (6, 7, 8)), [0, 0, None], command)


class WhileReady(unittest.TestCase):

    def test_only_moments_ahead_of_the_ready_one(self):
        ledger = played([("", "m")], [(("mark", 2), "marked"), (("ready", "d", PUT_B, 4), "ready")])
        self.assertEqual(told(ledger, "b", range(6)), [0, 0, 0, 0, None, None])
        ledger.apply(("mark", 9))
        self.assertEqual(told(ledger, "b", (3, 4, 5, 9)), [0, None, None, None])
        self.assertEqual(told(ledger, "a", (3, 4, 5, 9)), [0, 0, 0, 0])
        self.assertEqual(told(ledger, "c", (3, 4, 5, 9)), [0, 0, 0, 0])

    def test_any_op_counts(self):
        ops = (("a", "least", 0), ("b", "add", 1), ("c", "put", 1))
        ledger = played([("", "m")], [(("ready", "d", ops, 4), "ready")])
        for key in ("a", "b", "c"):
            self.assertEqual(told(ledger, key, (3, 4)), [0, None])

    def test_behind_its_end(self):
        for verdict, values in ((0, [0, 0, 0, 0, 0]), (3, [0, 0, 0, 0, 0]), (4, [0, 5, 5, 5, 5]), (6, [0, 0, 0, 5, 5])):
            ledger = played([("", "m")], [(("ready", "d", PUT_B, 4), "ready"), (("mark", 7), "marked")])
            ledger.apply(("over", "d", verdict))
            self.assertEqual(told(ledger, "b", (3, 4, 5, 6, 7)), values, verdict)

    def test_each_key_hangs_on_its_own_dealing(self):
        ledger = played([("", "m")], [
            (("ready", "d", PUT_B, 4), "ready"), (("ready", "e", (("c", "put", 1),), 6), "ready"),
        ])
        self.assertEqual(told(ledger, "b", (3, 4, 5, 6)), [0, None, None, None])
        self.assertEqual(told(ledger, "c", (3, 4, 5, 6)), [0, 0, 0, None])

    def test_a_dealing_that_is_refused_or_only_opened_hides_nothing(self):
        ledger = played([("", "m")], [
            (("open", "d", PUT_B), "open"), (("mark", 4), "marked"), (("ready", "d", (("b", "least", 1),), 5), "no"),
        ])
        self.assertEqual(told(ledger, "b", (3, 4)), [0, 0])


class Given(unittest.TestCase):

    def ledger(self):
        return played([("", "c"), ("c", "m")], [
            (("ready", "d", PUT_B, 3), "ready"), (("over", "d", 4), "over"), (("give", "v", "", "south", 8), "given"),
            (("mark", 20), "marked"),
        ])

    def test_moments_ahead_of_the_giving(self):
        ledger = self.ledger()
        self.assertEqual(told(ledger, "b", (0, 3, 4, 7, 8, 9, 20)), [0, 0, 5, 5, None, None, None])
        self.assertEqual(told(ledger, "a", (0, 7, 8, 20)), [0, 0, None, None])
        self.assertEqual(told(ledger, "c", (7, 8, 20, 21)), [0, 0, 0, None])
        self.assertEqual(told(ledger, "m", (0, 7, 8)), [None, None, None])

    def test_behind_a_taking_back(self):
        ledger = self.ledger()
        ledger.apply(("take", "w", "", "c", 15, (("b", 4, 5), ("b", 10, 6))))
        self.assertEqual(told(ledger, "b", (3, 4, 8, 9, 10, 15, 20, 21)), [0, 5, 5, 5, 6, 6, 6, None])

    def test_behind_a_second_giving(self):
        ledger = self.ledger()
        ledger.apply(("take", "w", "", "c", 15, (("b", 4, 5), ("b", 10, 6))))
        self.assertEqual(ledger.apply(("give", "x", "", "east", 25)), "given")
        self.assertEqual(told(ledger, "b", (3, 4, 8, 10, 24, 25)), [0, 5, 5, 6, 6, None])

    def test_of_several_givings_a_later_one_is_enough(self):
        ledger = self.ledger()
        ledger.apply(("take", "w", "", "c", 15, (("b", 4, 5),)))
        ledger.apply(("cut", "b"))
        ledger.apply(("give", "x", "b", "east", 25))
        ledger.apply(("give", "y", "", "east", 30))
        self.assertEqual(told(ledger, "b", (24, 25, 29)), [5, None, None])
        self.assertEqual(told(ledger, "a", (24, 25, 29, 30)), [0, 0, 0, None])


class EverAfter(unittest.TestCase):
    """Ledgers that deal and give spans to one another, at random but always the same."""

    KEYS = ("a", "b", "ba", "m", "n", "z")
    GROUPS = ("east", "north", "south")

    def setUp(self):
        self.ledgers = {
            "east": Ledger([("m", "")]), "north": Ledger([("", "b"), ("b", "m")]), "south": Ledger([]),
        }
        self.past = {}
        self.words = {}
        self.count = 0

    def name(self):
        self.count += 1
        return "".join("abcdefghij"[int(figure)] for figure in str(self.count))

    def ops(self, chance):
        keys = sorted(chance.sample(self.KEYS, chance.randint(1, 2)))
        return tuple((key, chance.choice(("put", "add", "add", "least")), chance.randint(-3, 3)) for key in keys)

    def owns(self, ledger, key):
        return any(low <= key and (not high or key < high) for low, high in ledger.owned())

    def next_command(self, chance, group, ledger):
        kind = chance.choice(("ready", "ready", "over", "over", "mark", "cut", "join", "give", "take", "take"))
        soon = ledger.last() + chance.randint(0, 3)
        if kind == "ready":
            # Mostly of keys that are owned, or else nearly all would be away.
            ops = tuple(op for op in self.ops(chance) if self.owns(ledger, op[0]) or chance.random() < 0.2)
            return (kind, self.name(), ops, soon) if ops else ("none",)
        if kind == "over" and ledger.ready():
            deal, moment, ops = chance.choice(ledger.ready())
            return (kind, deal, chance.choice((0, moment - 1, moment, moment + 1, moment + 4)))
        if kind == "mark":
            return (kind, soon)
        if kind in ("cut", "join"):
            return (kind, chance.choice(self.KEYS))
        if kind == "give" and ledger.owned():
            to = chance.choice([other for other in self.GROUPS if other != group])
            return (kind, self.name(), chance.choice(ledger.owned())[0], to, soon)
        if kind == "take":
            carried = [
                gift for giver in self.GROUPS for gift in self.ledgers[giver].given() if gift[3] == group
            ]
            fresh = [gift for gift in carried if gift[0] not in ledger.taken()]
            if carried:
                move, low, high, to, moment, rows = chance.choice(fresh or carried)
                return (kind, move, low, high, moment, rows)
        return ("none",)

    def look(self, group, ledger):
        for key in self.KEYS:
            for moment in range(ledger.last() + 3):
                now = ledger.tells(key, moment)
                place = (group, key, moment)
                if place in self.past:
                    self.assertEqual(now, self.past[place], place)
                elif now is not None:
                    self.past[place] = now

    def play(self, seed, steps):
        chance = random.Random(seed)
        for step in range(steps):
            group = chance.choice(self.GROUPS)
            ledger = self.ledgers[group]
            command = self.next_command(chance, group, ledger)
            word = ledger.apply(command)
            self.words[command[0], word] = self.words.get((command[0], word), 0) + 1
            self.look(group, ledger)

    def test_what_was_told_is_told_ever_after(self):
        words = {}
        values = []
        for seed in range(12):
            self.setUp()
            self.play(seed, 250)
            for happened, many in self.words.items():
                words[happened] = words.get(happened, 0) + many
            values.extend(self.past.values())
        # The walks must have met what could break the promise.
        for happened in (
            ("ready", "ready"), ("ready", "no"), ("ready", "away"), ("ready", "early"), ("over", "over"),
            ("over", "late"), ("give", "given"), ("give", "held"), ("give", "early"), ("take", "taken"),
            ("take", "known"), ("cut", "cut"), ("join", "joined"),
        ):
            self.assertGreater(words.get(happened, 0), 5, happened)
        self.assertGreater(len([value for value in values if value != 0]), 500)


if __name__ == "__main__":
    unittest.main()
