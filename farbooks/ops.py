"""Ops: tuples (key, kind, number) of what a dealing asks of a key."""


def keys_of(ops):
    """The list of the ops' keys."""
    return [op[0] for op in ops]


def is_met(op, value):
    """Whether a key of that value lets the op be done."""
    return op[1] != "least" or value >= op[2]


def changes_key(op):
    """Whether the op gives its key a new value."""
    return op[1] != "least"


def value_after(op, value):
    """The value that a put or add op gives its key, where it was the told one ahead of it."""
    if op[1] == "put":
        return op[2]
    return value + op[2]
