"""A house: its seats in groups, and all that it does behind a letter, a waking or a proposal."""

from farbooks.bench import adds_of, handled, pending, proposed, woken
from farbooks.ledger import Ledger
from farbooks.seat import Seat
from farbooks.steward import Steward


class Desk:
    """A house's seat in one group, with the ledger and the steward that go with it."""

    def __init__(self, group, house, names, spans):
        self.seat = Seat(group, house, names)
        self.first_spans = list(spans)
        self.begin_anew()

    def begin_anew(self):
        """Have nothing but the seat."""
        self.book = Ledger(self.first_spans)
        self.steward = Steward(self.seat.group)
        self.many_applied = 0
        self.has_news = False

    def is_chair(self):
        """Whether the seat is chair."""
        return self.seat.part == "chair"


class House:
    """A house of the world; the letters that it tells gather in its outbox."""

    def __init__(self, name, under, over, others):
        self.name = name
        self.under = under
        self.over = over
        self.others = list(others)
        self.stands = True
        self.desks = {}
        self.told = {}
        self.outbox = []

    def sit(self, group, names, spans):
        """Have a seat in the group from now on, if there is none yet."""
        if group not in self.desks:
            self.desks[group] = Desk(group, self.name, names, spans)

    def now(self, hour):
        """The pair of moments between which the house knows the hour to be."""
        return (hour - self.under, hour + self.over)

    def go_down(self):
        """Fall: the seats alone stay."""
        self.stands = False
        self.told = {}
        for desk in self.desks.values():
            desk.seat.fall()
            desk.begin_anew()

    def sorted_desks(self):
        """The list of its desks, by the names of the groups."""
        return [self.desks[group] for group in sorted(self.desks)]

    def chair_with(self, key):
        """Its first desk that is chair and whose ledger owns the key, or None."""
        for desk in self.sorted_desks():
            if desk.is_chair() and desk.book.owns(key):
                return desk
        return None

    def chair_with_span(self, low, other_group):
        """Its first desk of another group that is chair and whose ledger owns a span that begins at low, or None."""
        for desk in self.sorted_desks():
            if desk.is_chair() and desk.seat.group != other_group and desk.book.span_from(low) is not None:
                return desk
        return None

    def wake(self, group, now):
        """Wake its seat in the group; a chair's steward first."""
        desk = self.desks[group]
        if desk.is_chair():
            told = desk.steward.woken(desk.book, pending(desk.seat), now)
            self.carry_out(tasks_of(desk, told), now)
        self.outbox.extend(woken(desk.seat))
        self.carry_out([("apply", desk)], now)
        # Its adds were told just now.
        desk.has_news = False

    def take_letter(self, letter, now):
        """Let its seat in the letter's group handle the letter."""
        desk = self.desks[letter[1]]
        self.outbox.extend(handled(desk.seat, letter))
        self.carry_out([("apply", desk)], now)

    def take_note(self, note, now):
        """Let the note be heard by all its chairs."""
        self.carry_out(self.hearings(note), now)

    def propose(self, desk, command, now):
        """Propose the command at the desk, with all that comes of it."""
        self.carry_out([("propose", desk, command)], now)

    def carry_out(self, tasks, now):
        """Do the tasks, each with all that comes of it ahead of the next one."""
        # No calls within calls: what comes of one kept entry may have each later one applied within it.
        stack = tasks[::-1]
        while stack:
            more = self.step(stack.pop(), now)
            stack.extend(more[::-1])

    def step(self, task, now):
        """Do one task, and tell those that come of it."""
        match task:
            case ("apply", desk):
                return apply_next(desk, now)
            case ("propose", desk, command):
                return put_proposal(desk, command)
            case ("tell", desk, note):
                return self.tell_note(desk, note)
            case ("hear", desk, note):
                return let_hear(desk, note, now)
        return []

    def tell_note(self, desk, note):
        """Send the note to every other house; then its own chairs are to hear it."""
        self.outbox.extend([("note", desk.seat.group, self.name, to, note) for to in self.others])
        return self.hearings(note)

    def hearings(self, note):
        """The tasks by which each of its chairs hears the note."""
        return [("hear", desk, note) for desk in self.sorted_desks() if desk.is_chair()]

    def tell_news(self):
        """Tell the adds of each chair behind whose log something was put by proposing in this happening."""
        for desk in self.sorted_desks():
            if desk.has_news:
                self.outbox.extend(adds_of(desk.seat))
                desk.has_news = False

    def new_verdicts(self, early):
        """The list of (deal, verdict) that its chairs can tell as past, each told once until it falls."""
        found = []
        for desk in self.sorted_desks():
            if desk.is_chair():
                found.extend([row for row in desk.book.verdicts() if self.is_new(row, early)])
        for deal, verdict in found:
            self.told[deal] = True
        return found

    def is_new(self, row, early):
        """Whether a (deal, verdict) wasn't told and is surely past."""
        deal, verdict = row
        return deal not in self.told and (verdict == 0 or verdict < early)


def tasks_of(desk, told):
    """The tasks that come of what a steward told: its commands first, then its notes."""
    commands, notes = told
    return [("propose", desk, command) for command in commands] + [("tell", desk, note) for note in notes]


def apply_next(desk, now):
    """Apply the first kept entry that isn't applied yet; what comes of it is ahead of the next one."""
    if desk.many_applied > desk.seat.kept:
        return []
    term, command = desk.seat.log[desk.many_applied]
    desk.many_applied += 1
    word = desk.book.apply(command)
    if not desk.is_chair():
        return [("apply", desk)]
    told = desk.steward.applied(desk.book, command, word, now)
    return tasks_of(desk, told) + [("apply", desk)]


def put_proposal(desk, command):
    """Let the seat put the command behind its log, if it may."""
    if not proposed(desk.seat, command):
        return []
    desk.has_news = True
    return [("apply", desk)]


def let_hear(desk, note, now):
    """Let the desk's steward hear the note."""
    return tasks_of(desk, desk.steward.heard(desk.book, pending(desk.seat), note, now))
