"""Seats of one group and their letters, for tests."""

from farbooks.bench import handled, woken
from farbooks.seat import Seat

GROUP = "north"
TWO = ("ada", "bea")
THREE = ("ada", "bea", "cid")
FOUR = ("ada", "bea", "cid", "dot")
FIVE = ("ada", "bea", "cid", "dot", "eve")

NONE = ("none",)
FIRST_OF_THREE = (0, ("seats", THREE))


def ask(sender, to, term, place, last_term):
    return ("ask", GROUP, sender, to, term, place, last_term)


def vote(sender, to, term, granted):
    return ("vote", GROUP, sender, to, term, granted)


def add(sender, to, term, place, term_there, entries, kept):
    return ("add", GROUP, sender, to, term, place, term_there, tuple(entries), kept)


def got(sender, to, term, fits, number):
    return ("got", GROUP, sender, to, term, fits, number)


def follower(names=THREE, house="ada", term=0, entries=(), kept=0):
    """A follower with the entries behind its first one, told by a house zoe that was chair of the term."""
    seat = Seat(GROUP, house, names)
    if term:
        handled(seat, add("zoe", house, term, 0, 0, entries, kept))
    return seat


def runner(names=THREE, house="ada", seat=None):
    seat = seat if seat is not None else Seat(GROUP, house, names)
    woken(seat)
    return seat


def chair(names=THREE, house="ada", seat=None):
    """A chair voted for by just as many of the others, the last ones first, as it needs."""
    seat = runner(names, house, seat)
    for other in reversed([name for name in seat.names() if name != house]):
        if seat.part == "runner":
            handled(seat, vote(other, house, seat.term, True))
    assert seat.part == "chair", seat.part
    return seat


def state_of(seat):
    """All that a seat shows of itself, but its papers."""
    return (seat.group, seat.house, seat.term, seat.vote, seat.part, seat.kept, seat.names(), seat.entries())
