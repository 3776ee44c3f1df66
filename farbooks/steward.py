"""A steward: what a group's chair does about dealings and moves."""

from farbooks.ops import keys_of

# How often a steward is woken with a dealing opened until it gives the dealing up.
PATIENCE = 3

# Where the moment stands in the commands that have one; the verdict of an over counts as its moment.
MOMENT_PLACES = {"ready": 3, "give": 4, "take": 4, "mark": 1, "over": 2}


class Steward:
    """Tells pairs (commands to propose, notes for all houses), by the ledger of what is kept."""

    def __init__(self, group):
        self.group = group
        self.wakings = {}
        self.noted = {}

    def woken(self, ledger, pending, now):
        """What is to be done as time goes by."""
        early, late = now
        commands = self.tired_choices(ledger)
        if early > ledger.last():
            commands.append(("mark", early))
        wants = [want_of(deal, ops, self.group) for deal, ops in ledger.opened()]
        whiches = [("which", deal) for deal, moment, ops in ledger.ready()]
        carries = [carry_of(gift) for gift in ledger.given()]
        return (not_pending(commands, pending), wants + whiches + carries)

    def tired_choices(self, ledger):
        """Count a waking for each dealing opened; the commands that refuse those that were waited for long enough."""
        commands = []
        for deal, ops in ledger.opened():
            self.wakings[deal] = self.wakings.get(deal, 0) + 1
            if self.wakings[deal] >= PATIENCE:
                commands.append(("choose", deal, 0))
        return commands

    def applied(self, ledger, command, word, now):
        """What is to be told behind a command that was applied to the ledger and told the word."""
        match (command[0], word):
            case ("ready", "ready"):
                return ([], [answer_of(self.group, command[1], command[3], command[2])])
            case ("ready", "no"):
                return ([], [answer_of(self.group, command[1], 0, ())])
            case ("choose", "chosen"):
                return ([], [("over", command[1], command[2])])
            case ("give", "given"):
                return ([], [carry_of(gift) for gift in ledger.given() if gift[0] == command[1]])
            case ("open", "open"):
                return ([], [want_of(command[1], command[2], self.group)])
        return ([], [])

    def heard(self, ledger, pending, note, now):
        """What is to be done about a note."""
        commands = []
        notes = []
        match note:
            case ("want", deal, ops, group):
                commands, notes = self.heard_want(ledger, pending, deal, ops, now)
            case ("which", deal):
                notes = overs_of(ledger, deal)
            case ("over", deal, verdict):
                commands = ends_of(ledger, deal, verdict)
            case ("carry", move, low, high, moment, rows, group):
                if group == self.group and move not in ledger.taken():
                    commands = [("take", move, low, high, moment, rows)]
            case ("answer", deal, group, moment, keys):
                commands = self.heard_answer(ledger, deal, moment, keys, now)
        return (not_pending(commands, pending), notes)

    def heard_want(self, ledger, pending, deal, ops, now):
        """A pair: the command that makes ready what is owned, or the answer that was told of it before."""
        owned = tuple([op for op in ops if ledger.owns(op[0])])
        if not owned or ledger.ended(deal) is not None:
            return ([], [])
        if deal in ledger.refused():
            return ([], [answer_of(self.group, deal, 0, ())])
        for other, moment, locked in ledger.ready():
            if other == deal:
                return ([], [answer_of(self.group, deal, moment, locked)])
        early, late = now
        moment = max(early, latest_moment(ledger, pending) + 1)
        return ([("ready", deal, owned, moment)], [])

    def heard_answer(self, ledger, deal, moment, keys, now):
        """The command that chooses a verdict, where the answers heard allow for one."""
        ops = dict(ledger.opened()).get(deal)
        if ops is None:
            return []
        if moment == 0:
            return [("choose", deal, 0)]
        answers = self.noted.setdefault(deal, [])
        answers.append((moment, keys))
        if not all(is_answered(key, answers) for key in keys_of(ops)):
            return []
        early, late = now
        moments = [told for told, some in answers]
        return [("choose", deal, max([late, 1, *moments]))]


def is_answered(key, answers):
    """Whether the key is among the keys of some answer."""
    return any(key in keys for moment, keys in answers)


def overs_of(ledger, deal):
    """The over of a dealing for which a verdict was chosen, in a list; else none."""
    verdict = ledger.chosen(deal)
    if verdict is None:
        return []
    return [("over", deal, verdict)]


def ends_of(ledger, deal, verdict):
    """The command that ends a dealing that is ready, in a list; else none."""
    return [("over", deal, verdict) for other, moment, ops in ledger.ready() if other == deal]


def want_of(deal, ops, group):
    """The note by which a group asks all houses to make a dealing ready."""
    return ("want", deal, ops, group)


def answer_of(group, deal, moment, ops):
    """The note by which a group tells that the ops of a dealing are ready, or, with moment 0, that it is refused."""
    return ("answer", deal, group, moment, tuple(keys_of(ops)))


def carry_of(gift):
    """The note that brings a span given to its group."""
    move, low, high, group, moment, rows = gift
    return ("carry", move, low, high, moment, rows, group)


def not_pending(commands, pending):
    """The commands without those that are pending."""
    return [command for command in commands if not any(is_same(command, other) for other in pending)]


def is_same(command, other):
    """Whether two commands are about the same: the word, and the deal or move where it isn't a mark."""
    if command[0] != other[0]:
        return False
    return command[0] == "mark" or command[1] == other[1]


def latest_moment(ledger, pending):
    """The greatest of the ledger's last and the moments of the pending commands."""
    moments = [command[MOMENT_PLACES[command[0]]] for command in pending if command[0] in MOMENT_PLACES]
    return max([ledger.last(), *moments])
