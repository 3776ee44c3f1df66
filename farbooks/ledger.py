"""A ledger: what a group has in hand, by its first spans and the commands applied."""

from farbooks.ops import changes_key, is_met, keys_of, value_after
from farbooks.shelf import Shelf
from farbooks.spans import can_cut, clashes, cut_at, has_key, joined_at, span_with

EVERY_KEY = ("", "")


class Ledger:
    """A group's spans, shelf, dealings and moves; changed by `apply` alone."""

    def __init__(self, spans):
        self.spans = list(spans)
        self.shelf = Shelf()
        self.latest = 0
        # Dicts keep the order in which their keys came: that is the order told.
        self.all_opened = {}
        self.all_chosen = {}
        self.all_ended = {}
        self.now_ready = {}
        self.now_refused = {}
        self.holders = {}
        self.gifts = []
        self.arrivals = []

    def apply(self, command):
        """Do one command and tell the word of what came of it."""
        match command:
            case ("open", deal, ops):
                return self.do_open(deal, ops)
            case ("ready", deal, ops, moment):
                return self.do_ready(deal, ops, moment)
            case ("choose", deal, verdict):
                return self.do_choose(deal, verdict)
            case ("over", deal, verdict):
                return self.do_over(deal, verdict)
            case ("mark", moment):
                return self.do_mark(moment)
            case ("cut", key):
                return self.do_cut(key)
            case ("join", key):
                return self.do_join(key)
            case ("give", move, low, group, moment):
                return self.do_give(move, low, group, moment)
            case ("take", move, low, high, moment, rows):
                return self.do_take(move, low, high, moment, rows)
        return "none"

    def do_open(self, deal, ops):
        """Open a dealing where its first key is owned."""
        if deal in self.all_opened:
            return "known"
        if not self.owns(ops[0][0]):
            return "away"
        self.all_opened[deal] = ops
        return "open"

    def do_ready(self, deal, ops, moment):
        """Lock the keys of a dealing, or refuse it for good."""
        if deal in self.all_ended:
            return "over"
        if deal in self.now_ready or deal in self.now_refused:
            return "known"
        if not all(self.owns(key) for key in keys_of(ops)):
            return "away"
        if moment <= self.latest:
            return "early"
        if not self.can_lock(ops):
            self.now_refused[deal] = True
            return "no"
        for key in keys_of(ops):
            self.holders[key] = deal
        self.now_ready[deal] = (moment, ops)
        self.latest = moment
        return "ready"

    def do_choose(self, deal, verdict):
        """Choose the verdict of a dealing that was opened."""
        if deal in self.all_chosen:
            return "known"
        if deal not in self.all_opened:
            return "shut"
        self.all_chosen[deal] = verdict
        return "chosen"

    def do_over(self, deal, verdict):
        """End a dealing, and do its ops where it is done."""
        if deal in self.all_ended:
            return "known"
        if verdict == 0:
            self.end(deal, verdict)
            return "over"
        if deal not in self.now_ready:
            return "unready"
        moment, ops = self.now_ready[deal]
        self.end(deal, verdict)
        if verdict < moment:
            return "late"
        self.put_all(ops, verdict)
        self.raise_latest(verdict)
        return "over"

    def do_mark(self, moment):
        """Let last be no less than the moment."""
        self.raise_latest(moment)
        return "marked"

    def do_cut(self, key):
        """Make two spans of the one that has the key."""
        span = span_with(self.spans, key)
        if span is None:
            return "away"
        if not can_cut(span, key):
            return "known"
        self.spans = cut_at(self.spans, key)
        return "cut"

    def do_join(self, key):
        """Make one span of the two that meet at the key."""
        joined = joined_at(self.spans, key)
        if len(joined) == len(self.spans):
            return "away"
        self.spans = joined
        return "joined"

    def do_give(self, move, low, group, moment):
        """Give the span that begins at low to another group."""
        if any(gift[0] == move for gift in self.gifts):
            return "known"
        span = self.span_from(low)
        if span is None:
            return "away"
        if any(has_key(span, key) for key in self.holders):
            return "held"
        if moment <= self.latest:
            return "early"
        self.spans = [own for own in self.spans if own != span]
        self.gifts.append((move, low, span[1], group, moment, tuple(self.shelf.rows(span))))
        self.latest = moment
        return "given"

    def do_take(self, move, low, high, moment, rows):
        """Take a span that another group gave, with its rows."""
        if move in self.arrivals:
            return "known"
        if clashes(self.spans, (low, high)):
            return "clash"
        self.spans = sorted([*self.spans, (low, high)])
        self.shelf.take(rows)
        self.arrivals.append(move)
        self.raise_latest(moment)
        return "taken"

    def owns(self, key):
        """Whether one of its spans has the key."""
        return span_with(self.spans, key) is not None

    def span_from(self, low):
        """Its span that begins at low, or None."""
        for span in self.spans:
            if span[0] == low:
                return span
        return None

    def can_lock(self, ops):
        """Whether no key of the ops is locked and each least is met."""
        return all(op[0] not in self.holders and is_met(op, self.value(op[0])) for op in ops)

    def end(self, deal, verdict):
        """Let the dealing be ended: no locks, ready and refused no more."""
        self.holders = {key: holder for key, holder in self.holders.items() if holder != deal}
        self.now_ready.pop(deal, None)
        self.now_refused.pop(deal, None)
        self.all_ended[deal] = verdict

    def put_all(self, ops, moment):
        """Put what the ops make of their keys on the shelf, at the moment."""
        for op in ops:
            if changes_key(op):
                self.shelf.put(op[0], moment, value_after(op, self.value(op[0])))

    def raise_latest(self, moment):
        """Let last be the moment where it was less."""
        self.latest = max(self.latest, moment)

    def owned(self):
        """The list of its spans."""
        return list(self.spans)

    def last(self):
        """The moment up to which nothing can be made ready any more."""
        return self.latest

    def locks(self):
        """The sorted list of (key, deal)."""
        return sorted([(key, deal) for key, deal in self.holders.items()])

    def ready(self):
        """The list of (deal, moment, ops) that are ready."""
        return [(deal, moment, ops) for deal, (moment, ops) in self.now_ready.items()]

    def opened(self):
        """The list of (deal, ops) opened and not chosen."""
        return [(deal, ops) for deal, ops in self.all_opened.items() if deal not in self.all_chosen]

    def refused(self):
        """The list of deals refused here and not ended."""
        return list(self.now_refused)

    def chosen(self, deal):
        """The verdict chosen for the deal, or None."""
        return self.all_chosen.get(deal)

    def verdicts(self):
        """The list of (deal, verdict) of the dealings chosen, in the order in which they were opened."""
        return [(deal, self.all_chosen[deal]) for deal in self.all_opened if deal in self.all_chosen]

    def ops_opened(self, deal):
        """The ops with which the deal was opened, or None."""
        return self.all_opened.get(deal)

    def ended(self, deal):
        """The verdict with which the deal has ended here, or None."""
        return self.all_ended.get(deal)

    def given(self):
        """The list of (move, low, high, group, moment, rows) of the spans given."""
        return list(self.gifts)

    def taken(self):
        """The list of moves taken."""
        return list(self.arrivals)

    def newest(self, key):
        """The pair (moment, value) of the key's greatest moment on its shelf."""
        return self.shelf.newest(key)

    def value(self, key):
        """The newest value of the key on its shelf."""
        return self.newest(key)[1]

    def tells(self, key, moment):
        """What the key was at the moment, or None where the ledger doesn't know."""
        if moment > self.latest or self.is_unsure(key, moment):
            return None
        if not self.owns(key) and not self.gave_later(key, moment):
            return None
        return self.shelf.at(key, moment)

    def gave_later(self, key, moment):
        """Whether it gave a span that has the key, at a later moment."""
        return any(gift[4] > moment and has_key((gift[1], gift[2]), key) for gift in self.gifts)

    def is_unsure(self, key, moment):
        """Whether a dealing that is ready may yet change the key at that moment or earlier."""
        deal = self.holders.get(key)
        return deal is not None and self.now_ready[deal][0] <= moment

    def twin(self):
        """A ledger of its own with all that this one has."""
        other = Ledger(self.spans)
        other.shelf.take(self.shelf.rows(EVERY_KEY))
        other.latest = self.latest
        other.all_opened = dict(self.all_opened)
        other.all_chosen = dict(self.all_chosen)
        other.all_ended = dict(self.all_ended)
        other.now_ready = dict(self.now_ready)
        other.now_refused = dict(self.now_refused)
        other.holders = dict(self.holders)
        other.gifts = list(self.gifts)
        other.arrivals = list(self.arrivals)
        return other
