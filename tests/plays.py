"""Worlds played by chance of a fixed seed, their calm, and what must hold of every world."""

import random

from farbooks.ledger import Ledger
from farbooks.spans import has_key
from farbooks.world import World

KEYS = ("a", "b", "c", "g", "h", "m", "n", "q", "t", "x", "z")
HOUSES = ("ada", "bea", "cid", "dot", "eve", "fay", "gus", "hal")
GROUPS = ("north", "south", "east", "west")


def name_of(number):
    """A name of a deal or move."""
    return "abcdefghijklmnopqrstuvwxyz"[number // 26] + "abcdefghijklmnopqrstuvwxyz"[number % 26]


def some_plan(rng):
    """A plan of one to four groups, some of them without spans, maybe with spare houses."""
    houses = HOUSES[:rng.randint(1, 8)]
    names = sorted(rng.sample(GROUPS, rng.randint(1, 4)), key=lambda name: rng.random())
    ends = ["", *sorted(rng.sample(("d", "k", "p", "u", "w"), rng.randint(0, 4))), ""]
    spans = list(zip(ends, ends[1:]))
    owners = [rng.choice(names) for span in spans]
    groups = []
    for name in names:
        seats = tuple(sorted(rng.sample(houses, rng.randint(1, min(5, len(houses))))))
        groups.append((name, seats, [span for span, owner in zip(spans, owners) if owner == name]))
    slacks = [(house, rng.choice((0, 0, 3, 50, 100)), rng.choice((0, 0, 3, 50, 100))) for house in houses]
    rng.shuffle(slacks)
    return (groups, slacks, rng.choice((200, 201, 500)))


def some_ops(rng):
    keys = sorted(rng.sample(KEYS, rng.choice((1, 2, 2, 2, 3, 4, 8))))
    kinds = [rng.choice(("put", "put", "add", "add", "add", "least")) for key in keys]
    return tuple((key, kind, rng.randint(-3, 1) if kind == "least" else rng.randint(-2, 4)) for key, kind in zip(keys, kinds))


class Player:
    """Lets things happen to a world, by chance."""

    def __init__(self, seed, plan=None, most_begun=24):
        self.rng = random.Random(seed)
        self.world = World(plan if plan is not None else some_plan(self.rng))
        self.done = []
        self.begun = 0
        self.most_begun = most_begun
        self.rough = self.rng.choice((0, 1, 3))

    def play(self, many):
        for number in range(many):
            happening = self.some_happening()
            self.done.append(happening)
            self.world.happen(happening)
        return self.world

    def some_happening(self):
        rng = self.rng
        many = len(self.world.letters())
        kind = rng.choices(
            ("hand", "last", "copy", "lose", "wake", "fall", "rise", "time", "deal", "spans", "move", "seats", "read"),
            (70 if many else 0, 10, 2 * self.rough, 2 * self.rough + (30 if many > 150 else 0), 8, self.rough,
             2 * self.rough, 6, 4, 2, 3, 2, 10),
        )[0]
        if kind in ("hand", "copy", "lose"):
            return (kind, rng.choice((0, 0, 0, rng.randint(0, 500))))
        if kind == "last":
            return ("hand", max(many - 1, 0))
        return self.other_happening(kind)

    def other_happening(self, kind):
        rng = self.rng
        houses = [row[0] for row in self.world.plan()[1]]
        chairs = [row[2] for row in self.world.chairs()] or houses
        group = rng.choice(self.world.groups())
        if kind == "wake":
            chair = [row[2] for row in self.world.chairs() if row[0] == group]
            return ("wake", rng.choice(chair * 2 + houses), group)
        if kind == "fall":
            return (kind, rng.choice(self.world.standing() or houses))
        if kind == "rise":
            return (kind, rng.choice(houses))
        if kind == "time":
            return (kind, rng.choice((0, 1, 20, 100, 300)))
        if kind == "read":
            return (kind, rng.choice(houses), max(0, self.world.time() - rng.choice((0, 50, 150, 400))), rng.choice(KEYS))
        if kind == "spans":
            return (rng.choice(("cut", "cut", "join")), rng.choice(chairs), rng.choice(KEYS + ("d", "k", "p")))
        if kind == "seats":
            return (rng.choice(("seat", "leave")), rng.choice(chairs), group, rng.choice(houses))
        return self.beginning(kind, rng.choice(chairs), group)

    def beginning(self, kind, house, group):
        rng = self.rng
        if self.begun >= self.most_begun:
            return ("time", 5)
        self.begun += 1
        if kind == "deal":
            return ("deal", house, name_of(self.begun), some_ops(rng))
        lows = [
            low for other in self.world.groups() if self.world.ledger(house, other) is not None
            for low, high in self.world.ledger(house, other).owned()
        ]
        return ("move", house, name_of(self.begun), rng.choice(lows or [""]), group)


def replayed(plan, happenings):
    world = World(plan)
    for happening in happenings:
        world.happen(happening)
    return world


# What a world's groups have kept.


def seats_of(world):
    """All (house, group) with a Seat."""
    houses = sorted(row[0] for row in world.plan()[1])
    return [(house, group) for house in houses for group in world.groups() if world.seat_log(house, group) is not None]


def kept_entries(world, group):
    """The entries that the group has kept, by its papers."""
    place, term = max([row[2:4] for row in world.papers() if row[:2] == ("kept", group)], default=(0, 0))
    for house, other in seats_of(world):
        log = world.seat_log(house, other)
        if other == group and place < len(log) and log[place][0] == term:
            return log[:place + 1]
    raise AssertionError("no log has what was kept")


def books_of(world):
    """For each group the Ledger of what it has kept, with all its dealings' opens that were told open."""
    books = {}
    opened = {}
    for group, houses, spans in world.plan()[0]:
        books[group] = Ledger(spans)
        for term, command in kept_entries(world, group):
            if books[group].apply(command) == "open":
                opened[command[1]] = (group, command[2])
    return books, opened


def order_of(books, opened):
    rows = []
    for deal, (group, ops) in opened.items():
        if books[group].chosen(deal):
            rows.append((books[group].chosen(deal), deal, ops))
    return sorted(rows)


def table_at(order, moment):
    """The table behind all dealings of the order up to the moment, each done wholly; None where a least isn't met."""
    table = {}
    for verdict, deal, ops in order:
        if verdict <= moment:
            if any(kind == "least" and table.get(key, 0) < number for key, kind, number in ops):
                return None
            for key, kind, number in ops:
                if kind == "put":
                    table[key] = number
                if kind == "add":
                    table[key] = table.get(key, 0) + number
    return table


# What must hold of every world.


def check_papers(test, world):
    chairs = {}
    for row in world.papers():
        if row[0] == "chair":
            test.assertEqual(chairs.setdefault((row[1], row[2]), row[3]), row[3], row)
            some, names = row[4], row[5]
        else:
            some, names = row[4], row[5]
        test.assertEqual(list(some), sorted(set(some)), row)
        test.assertLessEqual(set(some), set(names), row)
        test.assertGreater(2 * len(some), len(names), row)


def check_logs(test, world):
    for group in world.groups():
        kept = kept_entries(world, group)
        for house, other in seats_of(world):
            if other == group:
                log, place = world.seat_log(house, group), world.kept_place(house, group)
                test.assertLess(place, len(log))
                test.assertLess(place, len(kept))
                test.assertEqual(log[:place + 1], kept[:place + 1])


def check_later_chairs(test, world, kept_before):
    """What was kept ahead of a chair's beginning stands in its log."""
    for group, term, house in world.chairs():
        log = world.seat_log(house, group)
        before = kept_before.get((group, term, house))
        if before is not None:
            test.assertEqual(log[:len(before)], before)


def check_order(test, world):
    books, opened = books_of(world)
    order = order_of(books, opened)
    for verdict, deal, ops in order:
        test.assertIsNotNone(table_at(order, verdict))
    told = {}
    for row in world.history():
        if row[0] == "told":
            test.assertEqual(books[opened[row[2]][0]].chosen(row[2]), row[3], row)
            told[row[2]] = row[3]
        if row[0] == "begun":
            verdict = books[row[4]].chosen(row[2])
            if verdict:
                test.assertTrue(all(past < verdict for past in told.values()), (row, told))
        if row[0] == "saw":
            test.assertEqual(table_at(order, row[5]).get(row[4], 0), row[6], row)
    return books, opened, order


def check_ends(test, world, books, opened):
    """Each dealing that has ended, ended with the verdict chosen, and put what it makes on the keys that it had."""
    for group, houses, spans in world.plan()[0]:
        book = Ledger(spans)
        for term, command in kept_entries(world, group):
            ready = {deal: (moment, ops) for deal, moment, ops in book.ready()}
            before = {key: book.value(key) for key in KEYS}
            word = book.apply(command)
            after = {key: book.value(key) for key in KEYS}
            if command[0] == "over" and word in ("over", "late"):
                deal, verdict = command[1:]
                test.assertEqual(books[opened[deal][0]].chosen(deal), verdict)
                expected = dict(before)
                if verdict and word == "over":
                    for key, kind, number in opened[deal][1]:
                        if key in [op[0] for op in ready[deal][1]] and kind != "least":
                            expected[key] = number if kind == "put" else before[key] + number
                test.assertEqual(after, expected)
            elif command[0] != "take":
                test.assertEqual(after, before, command)


def check_owners(test, books):
    for key in KEYS + ("d", "k", "p", "u", "w", "zzzzzzzz"):
        owners = [group for group, book in books.items() if any(has_key(span, key) for span in book.owned())]
        test.assertLessEqual(len(owners), 1, key)


def check_world(test, world):
    """No fault, as point 21 tells of it; the order of the dealings."""
    check_papers(test, world)
    check_logs(test, world)
    books, opened, order = check_order(test, world)
    check_ends(test, world, books, opened)
    check_owners(test, books)
    return order


# Calm.


def calm(world, rounds):
    """Rounds in which all is woken and all letters are handed, as point 23 tells of them; what was done."""
    done = []

    def do(*happening):
        world.happen(happening)
        done.append(happening)

    for number in range(rounds):
        do("time", 250)
        for group in world.groups():
            house = waker(world, group)
            if house is not None:
                do("wake", house, group)
        handed = 0
        while world.letters() and handed < 3000:
            do("hand", 0)
            handed += 1
    return done


def waker(world, group):
    chairs = [(term, house) for other, term, house in world.chairs() if other == group]
    if chairs:
        return max(chairs)[1]
    best = None
    for house in world.standing():
        log = world.seat_log(house, group)
        if log is not None and house in world.names(house, group):
            rank = (log[-1][0], len(log))
            if best is None or rank > best[0]:
                best = (rank, house)
    return None if best is None else best[1]


def is_settled(world):
    chairs = {group: house for group, term, house in world.chairs()}
    if sorted(chairs) != world.groups() or world.letters():
        return False
    ledgers = {group: world.ledger(house, group) for group, house in chairs.items()}
    taken = [move for ledger in ledgers.values() for move in ledger.taken()]
    for group, house in chairs.items():
        if world.kept_place(house, group) != len(world.seat_log(house, group)) - 1:
            return False
        if ledgers[group].opened() or ledgers[group].ready():
            return False
        if any(gift[0] not in taken for gift in ledgers[group].given()):
            return False
    return True


def may_be_calmed(world):
    """Whether more than half of the names of each seats command, in logs and in adds under way, stand."""
    commands = [entry[1] for house, group in seats_of(world) for entry in world.seat_log(house, group)]
    for letter in world.letters():
        if letter[0] == "add":
            commands.extend(entry[1] for entry in letter[7])
    standing = world.standing()
    seats = [command[1] for command in commands if command[0] == "seats"]
    return len(world.letters()) <= 400 and all(
        2 * sum(name in standing for name in names) > len(names) for names in seats
    )


def unknown_of(world, moments):
    """The (key, moment) that no standing house tells."""
    ledgers = [world.ledger(house, group) for house, group in seats_of(world) if house in world.standing()]
    return [
        (key, moment) for key in KEYS for moment in moments
        if all(ledger.tells(key, moment) is None for ledger in ledgers)
    ]
