"""A world: houses, the letters under way between them, and the history of what happens."""

from farbooks.bench import papers, pending
from farbooks.house import House
from farbooks.steward import latest_moment

# The happenings whose first word behind the kind is a house that must stand for anything to be done.
DONE_BY_HOUSES = ("wake", "fall", "deal", "cut", "join", "move", "seat", "leave", "read")


class World:
    """The houses of a plan, changed by what happens."""

    def __init__(self, plan):
        self.first_plan = copied_plan(plan)
        groups, slacks, rest = self.first_plan
        self.beginnings = {group: (names, spans) for group, names, spans in groups}
        self.hour = rest
        self.mail = []
        self.annals = []
        self.used_deals = {}
        self.used_moves = {}
        self.houses = houses_of(slacks)
        for group, names, spans in groups:
            for name in names:
                self.houses[name].sit(group, names, spans)

    def happen(self, happening):
        """Let one thing happen, with all that comes of it."""
        if happening[0] in DONE_BY_HOUSES:
            house = self.houses.get(happening[1])
            if house is not None and house.stands:
                self.done_by(house, happening)
        else:
            self.done_by_nobody(happening)
        self.close_happening()

    def done_by_nobody(self, happening):
        """Do what no standing house does."""
        match happening:
            case ("hand", number):
                self.hand_over(self.taken_out(number))
            case ("copy", number):
                self.hand_over(self.letter_at(number))
            case ("lose", number):
                self.taken_out(number)
            case ("rise", name):
                self.do_rise(name)
            case ("time", number):
                self.hour += number

    def done_by(self, house, happening):
        """Do what a standing house does."""
        match happening:
            case ("wake", name, group):
                self.do_wake(house, group)
            case ("fall", name):
                house.go_down()
            case ("deal", name, deal, ops):
                self.do_deal(house, deal, ops)
            case ("cut", name, key):
                self.do_spans(house, ("cut", key))
            case ("join", name, key):
                self.do_spans(house, ("join", key))
            case ("move", name, move, low, group):
                self.do_move(house, move, low, group)
            case ("seat", name, group, other):
                self.do_seats(house, group, other, True)
            case ("leave", name, group, other):
                self.do_seats(house, group, other, False)
            case ("read", name, moment, key):
                self.do_read(house, moment, key)

    def close_happening(self):
        """Let the letters told be under way, and tell the verdicts that are past now."""
        for house in self.houses.values():
            house.tell_news()
            self.mail.extend(house.outbox)
            house.outbox = []
        for house in self.standing_houses():
            early, late = house.now(self.hour)
            for deal, verdict in house.new_verdicts(early):
                self.annals.append(("told", self.hour, deal, verdict, house.name, early))

    def letter_at(self, number):
        """The letter under way with that number, counted round; None where none are."""
        if not self.mail:
            return None
        return self.mail[number % len(self.mail)]

    def taken_out(self, number):
        """That letter, under way no more."""
        if not self.mail:
            return None
        return self.mail.pop(number % len(self.mail))

    def hand_over(self, letter):
        """Hand the letter, if there is one, to its house, if that stands."""
        if letter is None:
            return
        house = self.houses[letter[3]]
        if not house.stands:
            return
        now = house.now(self.hour)
        if letter[0] == "note":
            house.take_note(letter[4], now)
            return
        names, spans = self.beginnings[letter[1]]
        house.sit(letter[1], names, spans)
        house.take_letter(letter, now)

    def do_rise(self, name):
        """Let a fallen house stand up."""
        house = self.houses.get(name)
        if house is not None:
            house.stands = True

    def do_wake(self, house, group):
        """Wake the house's seat in the group, if it has one."""
        if group in house.desks:
            house.wake(group, house.now(self.hour))

    def do_deal(self, house, deal, ops):
        """Begin a dealing at the first chair that owns its first key."""
        desk = house.chair_with(ops[0][0])
        if desk is None or deal in self.used_deals:
            return
        self.used_deals[deal] = True
        self.annals.append(("begun", self.hour, deal, ops, desk.seat.group))
        house.propose(desk, ("open", deal, ops), house.now(self.hour))

    def do_spans(self, house, command):
        """Propose a cut or join at the first chair that owns the key."""
        desk = house.chair_with(command[1])
        if desk is not None:
            house.propose(desk, command, house.now(self.hour))

    def do_move(self, house, move, low, group):
        """Begin a move at the first chair of another group that owns a span from low on."""
        desk = house.chair_with_span(low, group)
        if desk is None or move in self.used_moves or group not in self.beginnings:
            return
        self.used_moves[move] = True
        self.annals.append(("moved", self.hour, move, low, desk.seat.group, group))
        moment = latest_moment(desk.book, pending(desk.seat)) + 1
        house.propose(desk, ("give", move, low, group, moment), house.now(self.hour))

    def do_seats(self, house, group, other, is_coming):
        """Propose the group's seats with, or without, the other house."""
        desk = house.desks.get(group)
        if desk is None or not desk.is_chair() or other not in self.houses:
            return
        names = [name for name in desk.seat.names() if name != other]
        if is_coming:
            names.append(other)
        house.propose(desk, ("seats", tuple(sorted(names))), house.now(self.hour))

    def do_read(self, house, moment, key):
        """Ask all ledgers of the house what the key was at the moment."""
        found = []
        for desk in house.sorted_desks():
            value = desk.book.tells(key, moment)
            if value is not None:
                found.append(("saw", self.hour, house.name, desk.seat.group, key, moment, value))
        if not found:
            found.append(("blind", self.hour, house.name, key, moment))
        self.annals.extend(found)

    def standing_houses(self):
        """The list of the houses that stand, by names."""
        return [house for house in self.houses.values() if house.stands]

    def desk_of(self, house, group):
        """The desk of the house of that name in the group, or None."""
        if house not in self.houses:
            return None
        return self.houses[house].desks.get(group)

    def plan(self):
        """The plan by which the world was made."""
        return copied_plan(self.first_plan)

    def time(self):
        """The time."""
        return self.hour

    def letters(self):
        """The list of the letters under way."""
        return list(self.mail)

    def standing(self):
        """The sorted list of the names of the houses that stand."""
        return [house.name for house in self.standing_houses()]

    def chairs(self):
        """The sorted list of (group, term, house) of the standing houses' chairs."""
        seats = [desk.seat for house in self.standing_houses() for desk in house.sorted_desks() if desk.is_chair()]
        return sorted([(seat.group, seat.term, seat.house) for seat in seats])

    def groups(self):
        """The sorted list of the groups' names."""
        return sorted(self.beginnings)

    def ledger(self, house, group):
        """A copy of the house's ledger in the group, or None."""
        desk = self.desk_of(house, group)
        return None if desk is None else desk.book.twin()

    def seat_log(self, house, group):
        """The list of the entries of the house's log in the group, or None."""
        desk = self.desk_of(house, group)
        return None if desk is None else desk.seat.entries()

    def names(self, house, group):
        """The group's seats as the house knows them, or None."""
        desk = self.desk_of(house, group)
        return None if desk is None else desk.seat.names()

    def kept_place(self, house, group):
        """The last place that the house knows to be kept in the group, or None."""
        desk = self.desk_of(house, group)
        return None if desk is None else desk.seat.kept

    def history(self):
        """The list of what was begun, moved, told and seen."""
        return list(self.annals)

    def papers(self):
        """The list of all seats' papers, by houses, then groups."""
        found = []
        for house in self.houses.values():
            for desk in house.sorted_desks():
                found.extend(papers(desk.seat))
        return found


def copied_plan(plan):
    """A plan with lists of its own."""
    groups, slacks, rest = plan
    return ([(group, names, list(spans)) for group, names, spans in groups], list(slacks), rest)


def houses_of(slacks):
    """The dict of the houses by their names, in the order of the names."""
    names = sorted([name for name, under, over in slacks])
    houses = {}
    for name, under, over in sorted(slacks):
        houses[name] = House(name, under, over, [other for other in names if other != name])
    return houses
