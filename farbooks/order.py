"""The one order of the dealings of a record, and what is wrong with a record."""

from farbooks.bench import is_more_than_half
from farbooks.ops import changes_key, is_met, value_after
from farbooks.spans import clashes
from farbooks.tale import book_of, kept_entries, replay


def order_of(record):
    """The sorted list of (verdict, deal, ops) of all dealings done."""
    return order_in([book_of(record, group) for group in plan_groups(record)])


def plain(order, moment):
    """The sorted list of (key, value) when all dealings up to the moment are done in order; None where one can't be."""
    table = {}
    for verdict, deal, ops in order:
        if verdict <= moment:
            if not all(is_met(op, table.get(op[0], 0)) for op in ops):
                return None
            for op in ops:
                if changes_key(op):
                    table[op[0]] = value_after(op, table.get(op[0], 0))
    return sorted([(key, value) for key, value in table.items()])


def faults(record):
    """The list of texts of what is wrong with the record; empty where nothing is."""
    plan, logs, papers, history = record
    replays = [replay(record, group) for group in plan_groups(record)]
    books = [book for book, ends in replays]
    dealings = dealings_in(books)
    found = faults_of_verdicts(history, dealings) + faults_of_times(history, dealings)
    found.extend(faults_of_values(history, order_in(books)))
    for book, ends in replays:
        for end in ends:
            found.extend(faults_of_end(end, dealings))
    found.extend(faults_of_chairs(papers))
    found.extend([fault for paper in papers for fault in faults_of_half(paper)])
    found.extend(faults_of_keeping(record))
    return found + faults_of_owners(plan_groups(record), books)


def plan_groups(record):
    """The list of the groups of the record's plan."""
    groups, slacks, rest = record[0]
    return [group for group, houses, spans in groups]


def all_groups(record):
    """The sorted list of the groups of the plan, of logs and of what was kept."""
    plan, logs, papers, history = record
    kept = [paper[1] for paper in papers if paper[0] == "kept"]
    return sorted(set(plan_groups(record) + [row[1] for row in logs] + kept))


def order_in(books):
    """The order of the dealings that are done by some of the books."""
    rows = [(verdict, deal, book.ops_opened(deal)) for book in books for deal, verdict in book.verdicts()]
    return sorted(set([row for row in rows if row[0] != 0]))


def dealings_in(books):
    """The dict of (verdict, ops) of the dealings for which some book has chosen one."""
    dealings = {}
    for book in books:
        for deal, verdict in book.verdicts():
            dealings.setdefault(deal, (verdict, book.ops_opened(deal)))
    return dealings


def verdict_of(deal, dealings):
    """The verdict chosen for the deal, or None."""
    return dealings[deal][0] if deal in dealings else None


def faults_of_verdicts(history, dealings):
    """Verdicts told that weren't chosen."""
    told = [row for row in history if row[0] == "told"]
    return [
        f"{house} told the verdict {verdict} of {deal}, chosen is {verdict_of(deal, dealings)}"
        for kind, hour, deal, verdict, house, early in told if verdict != verdict_of(deal, dealings)
    ]


def faults_of_times(history, dealings):
    """Dealings done no later than one that was told ahead of their beginning."""
    done = {deal: verdict for deal, (verdict, ops) in dealings.items() if verdict != 0}
    told = {}
    found = []
    for row in history:
        if row[0] == "told" and row[2] in done:
            told[row[2]] = True
        if row[0] == "begun" and row[2] in done:
            found.extend([
                f"{row[2]} is done at {done[row[2]]}, {deal}, told ahead of it, at {done[deal]}"
                for deal in told if deal != row[2] and done[deal] >= done[row[2]]
            ])
    return found


def faults_of_values(history, order):
    """An order that can't be done, or values seen that it doesn't make."""
    if order and plain(order, order[-1][0]) is None:
        return ["some dealing is done where a least isn't met"]
    found = []
    for row in history:
        if row[0] == "saw":
            kind, hour, house, group, key, moment, value = row
            right = dict(plain(order, moment)).get(key, 0)
            if value != right:
                found.append(f"{house} saw {key} to be {value} at {moment}, it was {right}")
    return found


def faults_of_end(end, dealings):
    """A dealing ended with another verdict than the chosen one, or with other values than its ops make."""
    deal, verdict, values, made = end
    if verdict != verdict_of(deal, dealings):
        return [f"{deal} ended with {verdict}, chosen is {verdict_of(deal, dealings)}"]
    right = {
        op[0]: value_after(op, values[op[0]]) for op in dealings[deal][1] if changes_key(op) and op[0] in values
    }
    if made != right:
        return [f"{deal} has put other values than its ops make"]
    return []


def faults_of_chairs(papers):
    """Terms of a group with two chairs."""
    chairs = {}
    found = []
    for paper in papers:
        if paper[0] == "chair":
            kind, group, term, house, votes, names = paper
            first = chairs.setdefault((group, term), house)
            if house != first:
                found.append(f"{group} has the chairs {first} and {house} in the term {term}")
    return found


def faults_of_half(paper):
    """A paper without more than half of its names, in a list."""
    kind, group, number, teller, some, names = paper
    if is_more_than_half([name for name in names if name in some], names):
        return []
    return [f"{group} has a {kind} paper of no more than half of its names"]


def faults_of_keeping(record):
    """Groups of which no log has what was kept, and seats that keep what their group hasn't kept."""
    plan, logs, papers, history = record
    kept_by = {group: kept_entries(record, group) for group in all_groups(record)}
    found = [f"no log has what {group} has kept last" for group in kept_by if not kept_by[group]]
    for house, group, entries, kept in logs:
        if not 0 <= kept < len(entries):
            found.append(f"{house} keeps more than its log in {group}")
        elif not begins_with(kept_by[group], entries[:kept + 1]):
            found.append(f"{house} keeps what {group} hasn't kept")
    return found


def begins_with(entries, first):
    """Whether some entries begin with the first ones."""
    return list(entries[:len(first)]) == list(first)


def faults_of_owners(groups, books):
    """Pairs of groups whose books own a key both."""
    found = []
    for number, book in enumerate(books):
        for other in range(number):
            if any(clashes(books[other].owned(), span) for span in book.owned()):
                found.append(f"{groups[other]} and {groups[number]} own a key both")
    return found
