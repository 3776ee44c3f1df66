"""Stories as texts: read, shown, and played and told."""

from farbooks.calming import calm
from farbooks.errors import BadRow, Misplaced, TooMany, Twice, Uneven
from farbooks.order import faults, order_of
from farbooks.rows import read_row, words_of, written
from farbooks.spans import all_kept, clashes
from farbooks.tale import record_of
from farbooks.world import World

MOST_GROUPS = 4
MOST_HOUSES = 8
USUAL_REST = 200

# The rows that tell of the plan; all others are happenings.
PLAN_ROWS = ("group", "span", "slack", "rest")


class Draft:
    """What the rows of a story tell, as far as they are read."""

    def __init__(self):
        self.seats_told = {}
        self.spans_told = {}
        self.slacks_told = {}
        self.rests_told = []
        self.happenings = []

    def add_row(self, row, place):
        """Note a row, or refuse it."""
        if row[0] not in PLAN_ROWS:
            self.happenings.append(row)
            return
        if self.happenings or self.is_homeless(row):
            raise Misplaced(f"the {row[0]} stands too late or too early", place)
        if self.is_again(row):
            raise Twice(f"the {row[0]} was told before", place)
        self.note(row)
        if len(self.seats_told) > MOST_GROUPS or len(self.houses_told()) > MOST_HOUSES:
            raise TooMany("one group or house too many", place)

    def is_homeless(self, row):
        """Whether the row is a span of a group that wasn't told."""
        return row[0] == "span" and row[1] not in self.seats_told

    def is_again(self, row):
        """Whether the row tells of what may be told but once, and was."""
        match row:
            case ("group", name, houses):
                return name in self.seats_told
            case ("slack", house, under, over):
                return house in self.slacks_told
            case ("rest", number):
                return len(self.rests_told) > 0
        return False

    def note(self, row):
        """Note a row of the plan."""
        match row:
            case ("group", name, houses):
                self.seats_told[name] = houses
                self.spans_told[name] = []
            case ("span", name, low, high):
                self.spans_told[name].append((low, high))
            case ("slack", house, under, over):
                self.slacks_told[house] = (under, over)
            case ("rest", number):
                self.rests_told.append(number)

    def houses_told(self):
        """The sorted list of the houses of groups and slacks."""
        seated = [house for houses in self.seats_told.values() for house in houses]
        return sorted(set(seated + list(self.slacks_told)))

    def all_spans(self):
        """The sorted list of the spans of all groups."""
        return sorted([span for spans in self.spans_told.values() for span in spans])

    def finished_plan(self):
        """The plan that the rows told."""
        groups = [(name, houses, sorted(self.spans_told[name])) for name, houses in self.seats_told.items()]
        slacks = []
        for house in self.houses_told():
            under, over = self.slacks_told.get(house, (0, 0))
            slacks.append((house, under, over))
        rest = self.rests_told[0] if self.rests_told else USUAL_REST
        return (groups, slacks, rest)


def read_story(text):
    """The pair (plan, happenings) that the text tells."""
    draft = Draft()
    rows = text.split("\n")
    for number, row in enumerate(rows):
        words = words_of(row)
        if words:
            draft.add_row(row_told(words, number + 1), number + 1)
    if not is_even(draft.all_spans()):
        raise Uneven("the groups' spans don't keep each key just once", len(rows))
    return (draft.finished_plan(), draft.happenings)


def row_told(words, place):
    """The tuple that the words tell, which must have the form of a row."""
    row = read_row(words)
    if row is None:
        raise BadRow("no row has this form", place)
    return row


def is_even(spans):
    """Whether each key is in just one of the sorted spans."""
    # Where any two of them have a key both, some two neighbours have.
    return all_kept(spans) and not any(clashes([one], other) for one, other in zip(spans, spans[1:]))


def shown_story(plan, happenings):
    """The text of a story."""
    groups, slacks, rest = plan
    rows = []
    for group, houses, spans in groups:
        rows.append(("group", group, houses))
        rows.extend([("span", group, low, high) for low, high in spans])
    rows.extend([("slack", house, under, over) for house, under, over in slacks])
    rows.append(("rest", rest))
    rows.extend(happenings)
    return "\n".join([written(row) for row in rows])


def told_story(text):
    """The text of what came of a story's happenings."""
    plan, happenings = read_story(text)
    world = World(plan)
    for happening in happenings:
        play(world, happening)
    record = record_of(world)
    rows = [written(row) for row in world.history()]
    rows.append("order")
    rows.extend([f"{verdict} {deal}" for verdict, deal, ops in order_of(record)])
    found = faults(record)
    rows.extend([f"fault {words}" for words in found] if found else ["no fault"])
    return "\n".join(rows)


def play(world, happening):
    """Let a story's happening happen."""
    if happening[0] == "calm":
        calm(world, happening[1])
    else:
        world.happen(happening)
