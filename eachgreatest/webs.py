"""Webs: names, and ties between two of them."""

from eachgreatest.errors import NoName, NoWeb

# The desk reads these words itself, so no name may be one of them.
DESK_WORDS = (
    "web", "put", "take", "tie", "untie", "show", "first", "next", "all",
    "count", "sizes", "biggest", "fill", "tied", "apart", "cover",
)
LONGEST_NAME = 8


def is_name(word):
    """Whether a text is a name."""
    if not 1 <= len(word) <= LONGEST_NAME or word in DESK_WORDS:
        return False
    return all(["a" <= letter <= "z" for letter in word])


def is_row(web, row):
    """Whether a tuple holds names of the web alone, each once, in order."""
    return row == tuple([name for name in web[0] if name in row])


def pairs_of(names):
    """All pairs of names, each pair and all of them in the order of the names."""
    return [(one, other) for at, one in enumerate(names) for other in names[at + 1:]]


def tie_table(web):
    """The ties as keys, each also turned about, so that either order finds them."""
    table = {}
    for one, other in web[1]:
        table[(one, other)] = True
        table[(other, one)] = True
    return table


def read_names(row):
    """The names of a text's first row, in order, or NoWeb."""
    # An empty row would be split into one empty word.
    words = row.split(" ") if row else []
    if len(set(words)) < len(words) or not all([is_name(word) for word in words]):
        raise NoWeb(0)
    return tuple(sorted(words))


def read_ties(names, rows):
    """The ties of a text's rows behind the first one, in order, or NoWeb."""
    possible = pairs_of(names)
    ties = []
    for at, row in enumerate(rows, start=1):
        tie = tuple(sorted(row.split(" ")))
        if tie not in possible or tie in ties:
            raise NoWeb(at)
        ties.append(tie)
    return tuple(sorted(ties))


def read_web(text):
    """The web that a text shows, or NoWeb with the first wrong row."""
    first, *others = text.split("\n")
    names = read_names(first)
    return names, read_ties(names, others)


def web_shown(web):
    """The text of a web: its names in a row, then a row for each tie."""
    names, ties = web
    rows = [f"{one} {other}" for one, other in ties]
    return "\n".join([" ".join(names), *rows])


def turned_over(web):
    """The web of the same names with just the ties that this one has not."""
    names, ties = web
    return names, tuple([pair for pair in pairs_of(names) if pair not in ties])


def check_names(web, names):
    """Refuse with NoName the first name that is none of the web's or stands there again."""
    for at, name in enumerate(names):
        if name not in web[0] or name in names[:at]:
            raise NoName(name)


def web_of(web, names):
    """The web by some of its names alone, with the ties among them, or NoName."""
    check_names(web, names)
    kept = tuple([name for name in web[0] if name in names])
    return kept, tuple([(one, other) for one, other in web[1] if one in kept and other in kept])


def web_without(web, names):
    """The web without some of its names and without their ties, or NoName."""
    check_names(web, names)
    return web_of(web, tuple([name for name in web[0] if name not in names]))
