"""The rows of stories: their words read and written."""

MOST_FIGURES = 9
MOST_LETTERS = 8
MOST_SEATS = 5
MOST_OPS = 8

# What stands behind the first word of a row; rows of groups and deals have no fixed number of words.
FORMS = {
    "span": ("name", "edge", "edge"),
    "slack": ("name", "slack", "slack"),
    "rest": ("rest",),
    "hand": ("number",),
    "copy": ("number",),
    "lose": ("number",),
    "wake": ("name", "name"),
    "fall": ("name",),
    "rise": ("name",),
    "time": ("step",),
    "cut": ("name", "name"),
    "join": ("name", "name"),
    "move": ("name", "name", "edge", "name"),
    "seat": ("name", "name", "name"),
    "leave": ("name", "name", "name"),
    "read": ("name", "number", "name"),
    "calm": ("rounds",),
}

# The least and the greatest number of each kind.
RANGES = {
    "number": (0, 999999999),
    "slack": (0, 100),
    "rest": (200, 999999999),
    "step": (0, 1000),
    "rounds": (1, 60),
}


def words_of(row):
    """The list of the words of a row of a text."""
    return [word for word in row.split(" ") if word != ""]


def read_row(words):
    """The tuple that a row's words tell, or None where they have no form of a row."""
    match words[0]:
        case "group":
            return read_group(words)
        case "deal":
            return read_deal(words)
        case "span":
            return read_span(words)
    return read_form(words)


def read_form(words):
    """The tuple of a row with a fixed number of words, or None."""
    kinds = FORMS.get(words[0])
    if kinds is None or len(kinds) != len(words) - 1:
        return None
    values = [read_word(kind, word) for kind, word in zip(kinds, words[1:])]
    if None in values:
        return None
    return (words[0], *values)


def read_span(words):
    """The tuple of a span's row, or None, also where the span has no key."""
    row = read_form(words)
    # A span from the empty text on begins with the least key.
    if row is None or (row[3] != "" and max(row[2], "a") >= row[3]):
        return None
    return row


def read_group(words):
    """The tuple of a group's row, its houses a tuple, or None."""
    names = words[1:]
    houses = words[2:]
    if not all(is_name(name) for name in names) or not 1 <= len(houses) <= MOST_SEATS or not is_rising(houses):
        return None
    return ("group", words[1], tuple(houses))


def read_deal(words):
    """The tuple of a deal's row, or None."""
    names = words[1:3]
    ops = read_ops(words[3:])
    if ops is None or not all(is_name(name) for name in names):
        return None
    return ("deal", words[1], words[2], ops)


def read_ops(words):
    """The tuple of the ops that the words tell, three for each, or None."""
    if len(words) % 3 != 0 or not 1 <= len(words) // 3 <= MOST_OPS:
        return None
    ops = [read_op(words[at:at + 3]) for at in range(0, len(words), 3)]
    if None in ops or not is_rising(words[::3]):
        return None
    return tuple(ops)


def read_op(words):
    """The op that the three words tell, or None."""
    key, kind, amount = words
    number = read_amount(amount)
    if not is_name(key) or kind not in ("put", "add", "least") or number is None:
        return None
    return (key, kind, number)


def read_word(kind, word):
    """What the word tells as one of that kind, or None."""
    if kind == "edge" and word == "-":
        return ""
    if kind in ("name", "edge"):
        return word if is_name(word) else None
    least, greatest = RANGES[kind]
    number = read_number(word)
    if number is None or not least <= number <= greatest:
        return None
    return number


def read_number(word):
    """The number that the word tells, or None."""
    has_figures = 1 <= len(word) <= MOST_FIGURES and all("0" <= sign <= "9" for sign in word)
    if not has_figures or (word != "0" and word[0] == "0"):
        return None
    return int(word)


def read_amount(word):
    """The number of an op, which may be less than nought, or None."""
    if not word.startswith("-"):
        return read_number(word)
    number = read_number(word[1:])
    if number is None or number == 0:
        return None
    return -number


def is_name(word):
    """Whether the word has the form of names and of keys."""
    return 1 <= len(word) <= MOST_LETTERS and all("a" <= sign <= "z" for sign in word)


def is_rising(words):
    """Whether each of the words is greater than the one ahead of it."""
    return all(one < other for one, other in zip(words, words[1:]))


def written(row):
    """The row of a text that tells a tuple, the tuples in it word by word."""
    return " ".join(words_in(row))


def words_in(value):
    """The list of the words that tell a value."""
    if isinstance(value, tuple):
        return [word for part in value for word in words_in(part)]
    if value == "":
        return ["-"]
    return [str(value)]
