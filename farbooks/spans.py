"""Spans: pairs (low, high), each with the keys from low on and, unless high is empty, less than high."""

LEAST_KEY = "a"


def has_key(span, key):
    """Whether the span has the key."""
    low, high = span
    return low <= key and (high == "" or key < high)


def span_with(spans, key):
    """The span that has the key, or None."""
    for span in spans:
        if has_key(span, key):
            return span
    return None


def can_cut(span, key):
    """Whether the span has the key and a key that is less."""
    # An empty low stands for the least key: nothing is left ahead of a cut there.
    return has_key(span, key) and max(span[0], LEAST_KEY) < key


def cut_at(spans, key):
    """A list in which the span that has the key is two, where it can be cut there."""
    pieces = []
    for span in spans:
        if can_cut(span, key):
            pieces.append((span[0], key))
            pieces.append((key, span[1]))
        else:
            pieces.append(span)
    return pieces


def joined_at(spans, key):
    """A list in which the two spans that meet at the key are one, where there are such two."""
    joined = []
    for span in spans:
        if joined and joined[-1][1] == key and span[0] == key:
            joined[-1] = (joined[-1][0], span[1])
        else:
            joined.append(span)
    return joined


def all_kept(spans):
    """Whether each key is in one of the spans."""
    least_unkept = LEAST_KEY
    for low, high in spans:
        if low > least_unkept:
            return False
        if high == "":
            return True
        least_unkept = max(least_unkept, high)
    return False


def clashes(spans, span):
    """Whether some key is in the span and in one of the spans."""
    return any(share_key(other, span) for other in spans)


def share_key(one, other):
    """Whether some key is in both spans."""
    # What both have begins at the greater low, if they have anything in common.
    first = max(one[0], other[0], LEAST_KEY)
    return has_key(one, first) and has_key(other, first)
