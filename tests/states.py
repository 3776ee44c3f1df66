"""What a ledger tells of itself, for tests that compare it."""

from farbooks.ledger import Ledger

DEALS = ("d", "e", "f", "g")
KEYS = ("a", "b", "c", "ca", "d", "m", "n", "x", "z")
MOMENTS = tuple(range(0, 60)) + (99, 100, 101, 1000)


def state_of(ledger):
    """All that can be asked of a ledger about the deals, keys and moments of the tests."""
    return {
        "owned": ledger.owned(),
        "last": ledger.last(),
        "locks": ledger.locks(),
        "ready": ledger.ready(),
        "opened": ledger.opened(),
        "refused": ledger.refused(),
        "given": ledger.given(),
        "taken": ledger.taken(),
        "chosen": {deal: ledger.chosen(deal) for deal in DEALS if ledger.chosen(deal) is not None},
        "ended": {deal: ledger.ended(deal) for deal in DEALS if ledger.ended(deal) is not None},
        "value": {key: ledger.value(key) for key in KEYS if ledger.value(key) != 0},
        "tells": [ledger.tells(key, moment) for key in KEYS for moment in MOMENTS],
    }


def rows_of(ledger):
    """The rows of all keys of the spans that a ledger owns without locks."""
    probe = ledger.twin()
    rows = []
    for number, (low, high) in enumerate(probe.owned()):
        move = "probe" + "abcdefgh"[number]
        word = probe.apply(("give", move, low, "elsewhere", probe.last() + 1))
        assert word == "given", word
        rows.extend(probe.given()[-1][5])
    return rows


def played(spans, commands):
    """A ledger to which the commands were applied, each with its word: a list of (command, word)."""
    ledger = Ledger(spans)
    for command, word in commands:
        told = ledger.apply(command)
        assert told == word, (command, word, told)
    return ledger
