"""A seat: a house's part in a group, with its log of (term, command)."""


class Seat:
    """A house's log, term and vote in a group, and what it knows of the others as a runner or chair."""

    def __init__(self, group, house, names):
        self.group = group
        self.house = house
        self.term = 0
        self.vote = ""
        self.part = "follower"
        self.kept = 0
        self.log = []
        # Where the seats commands stand: the seats are asked for far more often than they change.
        self.turns = []
        self.sheets = []
        self.forget()
        self.put_entry((0, ("seats", tuple(sorted(names)))))

    def names(self):
        """The seats: the names of the last seats command in its log."""
        return self.log[self.turns[-1]][1][1]

    def entries(self):
        """The list of its log's entries."""
        return list(self.log)

    def fall(self):
        """Let the house fall: only term, vote and log stay."""
        self.part = "follower"
        self.kept = 0
        self.forget()

    def forget(self):
        """Know nothing of the others: no votes, and nothing of what they have."""
        self.backers = {}
        self.reached = {}
        self.next_places = {}
        self.first_next = len(self.log)

    def enter_term(self, term):
        """Be a follower in a greater term, without a vote."""
        self.term = term
        self.vote = ""
        self.part = "follower"
        self.forget()

    def last_place(self):
        """The place of its log's last entry."""
        return len(self.log) - 1

    def put_entry(self, entry):
        """Put an entry behind its log."""
        if entry[1][0] == "seats":
            self.turns.append(len(self.log))
        self.log.append(entry)

    def has_entry(self, place, term):
        """Whether an entry of that term stands at the place."""
        return place < len(self.log) and self.log[place][0] == term

    def take_entries(self, place, entries):
        """Let the entries stand from the place on; what it has of them with the same terms stays as it is."""
        same = self.many_same(place, entries)
        if same < len(entries):
            self.drop_from(place + same)
            for entry in entries[same:]:
                self.put_entry(entry)

    def many_same(self, place, entries):
        """How many of the entries, from the first one on, stand in the log from the place on with their terms."""
        for number, entry in enumerate(entries):
            if not self.has_entry(place + number, entry[0]):
                return number
        return len(entries)

    def drop_from(self, place):
        """Drop all entries from the place on."""
        self.log = self.log[:place]
        self.turns = [turn for turn in self.turns if turn < place]
