"""What seats do: they are woken, handle letters, and, as chairs, put proposals behind their logs."""


def woken(seat):
    """Let the seat be woken: a chair tells its adds, another one of the seats runs for chair."""
    if seat.part == "chair":
        return adds_of(seat)
    if seat.house not in seat.names():
        return []
    seat.enter_term(seat.term + 1)
    seat.vote = seat.house
    seat.part = "runner"
    seat.backers[seat.house] = True
    place = seat.last_place()
    asks = [
        ("ask", seat.group, seat.house, to, seat.term, place, seat.log[place][0]) for to in others_of(seat)
    ]
    return asks + chaired_if_backed(seat)


def handled(seat, letter):
    """Let the seat handle a letter of its group to its house."""
    if letter[4] > seat.term:
        seat.enter_term(letter[4])
    match letter[0]:
        case "ask":
            return [answer_to_ask(seat, letter)]
        case "vote":
            return counted_vote(seat, letter)
        case "add":
            return [answer_to_add(seat, letter)]
        case "got":
            return noted_got(seat, letter)
    return []


def proposed(seat, command):
    """Let a chair put the command behind its log; whether it did."""
    if seat.part != "chair":
        return False
    if command[0] == "seats" and not may_change_seats(seat, command[1]):
        return False
    seat.put_entry((seat.term, command))
    keep(seat)
    return True


def pending(seat):
    """The list of the commands of its log behind kept."""
    return [command for term, command in seat.log[seat.kept + 1:]]


def papers(seat):
    """The list of the papers of its chairs' terms and of its keeping, in the order in which they came."""
    return list(seat.sheets)


def others_of(seat):
    """The list of the seats but its own house."""
    return [name for name in seat.names() if name != seat.house]


def is_more_than_half(some, names):
    """Whether some of the names are more than half of them."""
    return 2 * len(some) > len(names)


def answer_to_ask(seat, letter):
    """The vote that answers an ask."""
    kind, group, sender, to, term, place, last_term = letter
    own_place = seat.last_place()
    is_free = term == seat.term and seat.vote in ("", sender)
    granted = is_free and (last_term, place) >= (seat.log[own_place][0], own_place)
    if granted:
        seat.vote = sender
    return ("vote", seat.group, seat.house, sender, seat.term, granted)


def counted_vote(seat, letter):
    """Let a runner count a vote granted in its own term."""
    kind, group, sender, to, term, granted = letter
    if seat.part != "runner" or term != seat.term or not granted:
        return []
    seat.backers[sender] = True
    return chaired_if_backed(seat)


def chaired_if_backed(seat):
    """Let a runner be chair where more than half of its seats voted for it."""
    names = seat.names()
    votes = [name for name in names if name in seat.backers]
    if not is_more_than_half(votes, names):
        return []
    # What is known of the others begins anew, ahead of the entry that is put now.
    seat.forget()
    seat.part = "chair"
    seat.sheets.append(("chair", seat.group, seat.term, seat.house, tuple(sorted(votes)), names))
    seat.put_entry((seat.term, ("none",)))
    keep(seat)
    return adds_of(seat)


def adds_of(seat):
    """A chair's adds, one for every other seat."""
    return [add_for(seat, to) for to in others_of(seat)]


def add_for(seat, to):
    """The chair's add of all entries that the house isn't known to have."""
    place = min(seat.next_places.get(to, seat.first_next) - 1, seat.last_place())
    entries = tuple(seat.log[place + 1:])
    return ("add", seat.group, seat.house, to, seat.term, place, seat.log[place][0], entries, seat.kept)


def answer_to_add(seat, letter):
    """The got that answers an add, its entries taken where they fit."""
    kind, group, sender, to, term, place, term_there, entries, kept = letter
    if term < seat.term:
        return got_for(seat, sender, False, 0)
    seat.part = "follower"
    if not seat.has_entry(place, term_there):
        return got_for(seat, sender, False, min(len(seat.log), place))
    seat.take_entries(place + 1, entries)
    last = place + len(entries)
    # Behind the last place told of, its log may yet differ from the chair's.
    seat.kept = max(seat.kept, min(kept, last))
    return got_for(seat, sender, True, last)


def got_for(seat, to, fits, number):
    """The got that tells a chair whether its add fitted."""
    return ("got", seat.group, seat.house, to, seat.term, fits, number)


def noted_got(seat, letter):
    """Let a chair note what a house has, and keep."""
    kind, group, sender, to, term, fits, number = letter
    if seat.part != "chair" or term != seat.term:
        return []
    if fits:
        seat.reached[sender] = max(seat.reached.get(sender, 0), number)
        seat.next_places[sender] = seat.reached[sender] + 1
    else:
        seat.next_places[sender] = max(number, 1)
    if keep(seat):
        return adds_of(seat)
    if not fits and sender in others_of(seat):
        return [add_for(seat, sender)]
    return []


def keep(seat):
    """Let a chair keep all that it may; whether its kept grew."""
    place = place_to_keep(seat)
    if place == seat.kept:
        return False
    seat.kept = place
    houses = tuple(sorted(houses_with(seat, place)))
    seat.sheets.append(("kept", seat.group, place, seat.term, houses, seat.names()))
    return True


def place_to_keep(seat):
    """The greatest place beyond kept of the chair's own term that more than half of its seats have; else kept."""
    for place in range(seat.last_place(), seat.kept, -1):
        # Where more than half have an older term's entry, a later chair could still drop it.
        if seat.log[place][0] == seat.term and is_more_than_half(houses_with(seat, place), seat.names()):
            return place
    return seat.kept


def houses_with(seat, place):
    """Those of the chair's seats that have all up to the place."""
    return [name for name in seat.names() if name == seat.house or seat.reached.get(name, 0) >= place]


def may_change_seats(seat, names):
    """Whether a chair may put a seats command with the names."""
    if len(set(names) ^ set(seat.names())) != 1 or seat.house not in names:
        return False
    # Two changes under way at once, or one upon an older chair's, could make two halves that don't meet.
    return seat.turns[-1] <= seat.kept and seat.log[seat.kept][0] == seat.term
