"""Records for tests: of a busy world, made by hand, and changed by hand."""

from farbooks.calming import calm
from farbooks.tale import record_of
from farbooks.world import World
from tests.worlds import lose_all, played

EAST = ("ada", "bea", "cid")
WEST = ("bea", "cid", "dot")


def chair_of(world, group):
    """The house that is chair of the group."""
    return max((term, house) for other, term, house in world.chairs() if other == group)[1]


def busy_world():
    """A world of two groups and a spare that sits in one of them, with dealings done, refused and under way."""
    groups = [("west", WEST, [("m", "")]), ("east", EAST, [("", "f"), ("f", "m")])]
    slacks = [("zoe", 0, 0), ("ada", 10, 20), ("bea", 5, 0), ("cid", 0, 30), ("dot", 100, 100), ("eve", 0, 0)]
    world = World((groups, slacks, 200))
    calm(world, 2)
    east = chair_of(world, "east")
    played(world, ("seat", east, "east", "zoe"))
    calm(world, 1)
    deals = (
        ("pay", (("b", "put", 5), ("x", "add", 2))),
        ("loan", (("b", "add", 4), ("g", "least", 0), ("y", "put", 3))),
        ("wish", (("b", "least", 100), ("x", "put", 9))),
        ("gift", (("b", "add", -1), ("x", "least", 2))),
    )
    for deal, ops in deals:
        played(world, ("deal", east, deal, ops))
        calm(world, 2)
    played(world, ("move", east, "trip", "f", "west"), ("cut", east, "c"))
    calm(world, 2)
    for house in ("ada", "bea", "cid", "dot", "eve", "zoe"):
        for key, back in (("b", 100), ("b", 1500), ("g", 700), ("x", 400), ("y", 2000)):
            played(world, ("read", house, world.time() - back, key))
    played(world, ("deal", east, "late", (("a", "put", 1),)))
    return lose_all(world)


def busy_record():
    return record_of(busy_world())


# Records made by hand: each group is kept by ada alone, who was its chair in term 1.


def log_of(commands):
    return [(0, ("seats", ("ada",))), (1, ("none",))] + [(1, command) for command in commands]


def papers_of(group, commands):
    return [("chair", group, 1, "ada", ("ada",), ("ada",)), ("kept", group, len(commands) + 1, 1, ("ada",), ("ada",))]


def hand_made(*books, history=()):
    """A record of groups, each told as (group, spans, commands kept)."""
    groups = [(group, ("ada",), list(spans)) for group, spans, commands in books]
    logs = [("ada", group, log_of(commands), len(commands) + 1) for group, spans, commands in books]
    papers = [paper for group, spans, commands in books for paper in papers_of(group, commands)]
    return ((groups, [("ada", 0, 0)], 200), logs, papers, list(history))


def alone(*commands, history=()):
    """A record of one group that keeps every key."""
    return hand_made(("north", [("", "")], commands), history=history)


def done(deal, ops, moment, verdict, ready_ops=None):
    """The commands of a dealing opened, made ready, chosen and ended in one group."""
    return [
        ("open", deal, ops), ("ready", deal, ops if ready_ops is None else ready_ops, moment),
        ("choose", deal, verdict), ("over", deal, verdict),
    ]


def begun(deal, ops=(("b", "put", 5),), group="north"):
    return ("begun", 200, deal, ops, group)


def told(deal, verdict):
    return ("told", 200, deal, verdict, "ada", 190)


def saw(key, moment, value):
    return ("saw", 200, "ada", "north", key, moment, value)


# Records changed by hand.


def with_plan(record, plan):
    return (plan,) + record[1:]


def with_logs(record, logs):
    return (record[0], list(logs), record[2], record[3])


def with_papers(record, papers):
    return (record[0], record[1], list(papers), record[3])


def with_history(record, history):
    return record[:3] + (list(history),)


def swapped(rows, old, new):
    """The rows with another one in the place of each old one; there must be one."""
    assert old in rows, old
    return [new if row == old else row for row in rows]


def with_command(record, group, old, new):
    """The record in which all logs of the group have the new command where they had the old one."""
    changed = []
    found = False
    for house, other, entries, kept in record[1]:
        if other == group:
            found = found or any(command == old for term, command in entries)
            entries = [(term, new if command == old else command) for term, command in entries]
        changed.append((house, other, entries, kept))
    assert found, old
    return with_logs(record, changed)


def row_of(record, kind, *first):
    """The history's first row of that kind whose words behind the time begin so."""
    for row in record[3]:
        if row[0] == kind and row[2:2 + len(first)] == first:
            return row
    raise AssertionError((kind, first))


def command_of(record, group, *first):
    """The first command of the group's logs that begins so."""
    for house, other, entries, kept in record[1]:
        for term, command in entries:
            if other == group and command[:len(first)] == first:
                return command
    raise AssertionError(first)
