"""Kinds of rows: "tied", "apart" and "cover"."""

from eachgreatest.errors import NoRow
from eachgreatest.webs import is_row, tie_table

KINDS = ("tied", "apart", "cover")
# What the first two kinds ask of each two names of a row: to be tied, or not to be.
WANTS_TIE = {"tied": True, "apart": False}


def goes_with(table, kind, name, row):
    """Whether a name may stand beside each name of a row; not of covers."""
    wanted = WANTS_TIE[kind]
    return all([((name, other) in table) == wanted for other in row])


def is_cover(web, row):
    """Whether each tie of the web has a name in the row."""
    return all([one in row or other in row for one, other in web[1]])


def row_without(row, name):
    """A row less one name."""
    return tuple([other for other in row if other != name])


def is_of(web, kind, row):
    """Whether a row of the web is of a kind; what is no row of it is of none."""
    if not is_row(web, row):
        return False
    if kind == "cover":
        return is_cover(web, row)
    table = tie_table(web)
    return all([goes_with(table, kind, name, row[:at]) for at, name in enumerate(row)])


def is_greatest(web, kind, row):
    """Whether a row is of a kind and no name can be put to it (of covers: taken out)."""
    if not is_of(web, kind, row):
        return False
    if kind == "cover":
        return not any([is_cover(web, row_without(row, name)) for name in row])
    table = tie_table(web)
    return not any([goes_with(table, kind, name, row) for name in web[0] if name not in row])


def thinned(web, row):
    """The least cover that comes of taking names out, from the last name to the first."""
    for name in reversed(web[0]):
        less = row_without(row, name)
        if is_cover(web, less):
            row = less
    return row


def grown(web, table, kind, row):
    """The greatest row that comes of putting names, in order, to one of the kind; not of covers."""
    held = list(row)
    for name in web[0]:
        if name not in held and goes_with(table, kind, name, held):
            held.append(name)
    return tuple(sorted(held))


def filled(web, kind, row):
    """The greatest row (of covers the least) that comes of a row of the kind, or NoRow."""
    if not is_of(web, kind, row):
        raise NoRow(f"what is to be filled is not of the kind {kind}")
    if kind == "cover":
        return thinned(web, row)
    return grown(web, tie_table(web), kind, row)
