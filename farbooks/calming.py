"""Calm: rounds in which all wake and all letters come, until a world is settled."""

ROUND_TIME = 250
MOST_HANDED = 3000


def calm(world, rounds):
    """Play the rounds, and tell the list of the happenings done."""
    done = []
    for number in range(rounds):
        done.extend(play_round(world))
    return done


def settled(world):
    """Whether all that was begun in the world has come to its end."""
    chairs = [newest_chair(world, group) for group in world.groups()]
    if None in chairs or world.letters():
        return False
    seats = [(house, group) for group, house in zip(world.groups(), chairs)]
    ledgers = [world.ledger(house, group) for house, group in seats]
    moves = [move for ledger in ledgers for move in ledger.taken()]
    return all(has_kept_all(world, house, group) for house, group in seats) and all(
        is_done(ledger, moves) for ledger in ledgers
    )


def play_round(world):
    """Let time go by, wake a house of each group and hand all letters; the list of what was done."""
    done = [happened(world, ("time", ROUND_TIME))]
    for group in world.groups():
        house = house_to_wake(world, group)
        if house is not None:
            done.append(happened(world, ("wake", house, group)))
    handed = 0
    while handed < MOST_HANDED and world.letters():
        done.append(happened(world, ("hand", 0)))
        handed += 1
    return done


def happened(world, happening):
    """The happening, which has happened now."""
    world.happen(happening)
    return happening


def house_to_wake(world, group):
    """The group's chair, or, where none stands, the house with the most to be chair; None where there is none."""
    chair = newest_chair(world, group)
    if chair is not None:
        return chair
    best = None
    best_rank = None
    for house in world.standing():
        rank = rank_of(world, house, group)
        if rank is not None and (best is None or rank > best_rank):
            best = house
            best_rank = rank
    return best


def newest_chair(world, group):
    """The standing chair of the group's greatest term, or None."""
    chairs = [(term, house) for other, term, house in world.chairs() if other == group]
    if not chairs:
        return None
    return max(chairs)[1]


def rank_of(world, house, group):
    """The pair (term, place) of the house's last entry; None where it isn't one of its own seats in the group."""
    entries = world.seat_log(house, group)
    if entries is None or house not in world.names(house, group):
        return None
    return (entries[-1][0], len(entries) - 1)


def has_kept_all(world, house, group):
    """Whether the house knows all of its log in the group to be kept."""
    return world.kept_place(house, group) == len(world.seat_log(house, group)) - 1


def is_done(ledger, moves):
    """Whether no dealing is under way in the ledger, and all moves given there are among the told ones."""
    is_quiet = not ledger.opened() and not ledger.ready()
    return is_quiet and all(gift[0] in moves for gift in ledger.given())
