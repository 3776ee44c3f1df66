"""Small worlds, for tests."""

from farbooks.world import World

ALL = [("", "")]
THREE = ("ada", "bea", "cid")

PUT_B = (("b", "put", 5),)
PUT_X = (("x", "put", 7),)
BOTH = (("b", "put", 5), ("x", "add", 2))


def slacks_of(houses, under=0, over=0):
    return [(house, under, over) for house in houses]


def alone(spares=(), under=10, over=20, rest=200):
    """A world of one group that ada keeps alone."""
    return World(([("north", ("ada",), ALL)], slacks_of(("ada",) + tuple(spares), under, over), rest))


def pair(spares=("zoe",), under=10, over=20, rest=200):
    """A world of two groups, east up to m and west from m on, that ada keeps alone."""
    groups = [("west", ("ada",), [("m", "")]), ("east", ("ada",), [("", "m")])]
    return World((groups, slacks_of(("ada",) + tuple(spares), under, over), rest))


def trio(spares=(), under=10, over=20, rest=200):
    """A world of one group of three houses."""
    return World(([("north", THREE, ALL)], slacks_of(THREE + tuple(spares), under, over), rest))


def apart(under=10, over=20, rest=200):
    """A world of two groups, east up to m kept by ada, west from m on kept by bea."""
    groups = [("east", ("ada",), [("", "m")]), ("west", ("bea",), [("m", "")])]
    return World((groups, slacks_of(("ada", "bea"), under, over), rest))


def played(world, *happenings):
    for happening in happenings:
        world.happen(happening)
    return world


def hand_all(world, most=1000):
    """Hand all letters, the first one first."""
    for number in range(most):
        if not world.letters():
            return world
        world.happen(("hand", 0))
    raise AssertionError("the letters have no end")


def lose_all(world):
    while world.letters():
        world.happen(("lose", 0))
    return world


def woken(world, house, group):
    """The world, its house woken in the group, and all letters handed."""
    return hand_all(played(world, ("wake", house, group)))


def hand_to(world, house, kind=None):
    """Hand the first letter to that house (of that kind)."""
    for place, letter in enumerate(world.letters()):
        if letter[3] == house and kind in (None, letter[0]):
            world.happen(("hand", place))
            return letter
    raise AssertionError("no such letter")


def brief(letters):
    """Letters as pairs of what they are and to whom they go: the note's word or the kind."""
    return [(letter[4][0] if letter[0] == "note" else letter[0], letter[3]) for letter in letters]


def commands_of(world, house, group):
    return [command for term, command in world.seat_log(house, group)]


def state_of(world):
    """All that can be asked of a world."""
    houses = sorted(row[0] for row in world.plan()[1])
    ledgers = {}
    for house in houses:
        for group in world.groups():
            ledger = world.ledger(house, group)
            if ledger is not None:
                ledgers[house, group] = (
                    world.seat_log(house, group), world.names(house, group), world.kept_place(house, group),
                    ledger.owned(), ledger.last(), ledger.locks(), ledger.ready(), ledger.opened(), ledger.refused(),
                    ledger.given(), ledger.taken(), [ledger.value(key) for key in ("a", "b", "m", "x")],
                )
    return (
        world.plan(), world.time(), world.letters(), world.standing(), world.chairs(), world.groups(), ledgers,
        world.history(), world.papers(),
    )
