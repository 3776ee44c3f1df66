"""Records of worlds, and what their groups have kept."""

from farbooks.ledger import Ledger
from farbooks.ops import keys_of


def record_of(world):
    """The tuple (plan, logs, papers, history) of what the world has to show."""
    plan = world.plan()
    logs = []
    for house in sorted([slack[0] for slack in plan[1]]):
        for group in world.groups():
            entries = world.seat_log(house, group)
            if entries is not None:
                logs.append((house, group, entries, world.kept_place(house, group)))
    return (plan, logs, world.papers(), world.history())


def kept_of(record, group):
    """The list of the commands that the group has kept; empty where no log has the last one."""
    return [command for term, command in kept_entries(record, group)]


def book_of(record, group):
    """A ledger of the group's first spans to which all that it has kept was applied."""
    book, ends = replay(record, group)
    return book


def kept_entries(record, group):
    """The list of the entries that the group has kept; empty where no log has the last one."""
    plan, logs, papers, history = record
    spots = [(paper[2], paper[3]) for paper in papers if paper[0] == "kept" and paper[1] == group]
    for house, other, entries, kept in logs:
        if other == group and has_last_of(entries, spots):
            return list(entries[:last_place_of(spots) + 1])
    return []


def last_place_of(spots):
    """The greatest place of some (place, term) that were kept; a log's first entry is kept without a paper."""
    return max([place for place, term in spots], default=0)


def has_last_of(entries, spots):
    """Whether the log's entries have the greatest of the (place, term) that were kept."""
    if not spots:
        return len(entries) > 0
    place, term = max(spots)
    return place < len(entries) and entries[place][0] == term


def first_spans(record, group):
    """The list of the spans with which the group begins; none of a group that the plan doesn't tell."""
    groups, slacks, rest = record[0]
    return [span for name, houses, spans in groups if name == group for span in spans]


def replay(record, group):
    """The pair of the group's book and the list of what ended in it, each as `ends_by` tells it."""
    book = Ledger(first_spans(record, group))
    ends = []
    for command in kept_of(record, group):
        if command[0] == "over":
            ends.extend(ends_by(book, command))
        else:
            book.apply(command)
    return (book, ends)


def ends_by(book, command):
    """Apply an over; where it ends a dealing, in a list: (deal, verdict, values, made).

    The values are a dict of what the keys on which it is done here were ahead of it, made one of what it put on them.
    """
    kind, deal, verdict = command
    locked = [key for other, moment, ops in book.ready() if other == deal for key in keys_of(ops)]
    values = {key: book.value(key) for key in locked}
    word = book.apply(command)
    if word not in ("over", "late"):
        return []
    if word == "late" or verdict == 0:
        return [(deal, verdict, {}, {})]
    # All that was on the shelf for these keys is older than the moment at which they were locked.
    made = {key: book.value(key) for key in locked if book.newest(key)[0] == verdict}
    return [(deal, verdict, values, made)]
