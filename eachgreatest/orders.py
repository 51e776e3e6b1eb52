"""All greatest rows of a kind, in order, and the next behind one."""

from eachgreatest.errors import NoRow
from eachgreatest.kinds import goes_with
from eachgreatest.webs import tie_table


def begun_row(table, kind, row, name):
    """The names of a row that are ahead of a name and go with it, and this name."""
    ahead = [other for other in row if other < name and goes_with(table, kind, other, (name,))]
    return (*ahead, name)


def is_full_ahead(web, table, kind, row, name):
    """Whether no name ahead of this name can be put to a row of the kind."""
    ahead = [other for other in web[0] if other < name and other not in row]
    return not any([goes_with(table, kind, other, row) for other in ahead])


def rows_with_name(web, table, kind, rows, name):
    """The greatest rows by the names up to this one, of those by the names ahead of it."""
    found = {}
    for row in rows:
        begun = begun_row(table, kind, row, name)
        if not goes_with(table, kind, name, row):
            found[row] = True
        # Several rows may begin the same one.
        if is_full_ahead(web, table, kind, begun, name):
            found[begun] = True
    return list(found)


def all_grown(web, kind):
    """All greatest rows, in order; not of covers."""
    table = tie_table(web)
    rows = [()]
    # By the first names alone there are never more greatest rows than by all of them.
    for name in web[0]:
        rows = rows_with_name(web, table, kind, rows, name)
    return sorted(rows)


def what_is_left(web, row):
    """The names of the web that are not in a row."""
    return tuple([name for name in web[0] if name not in row])


def all_rows(web, kind):
    """All greatest rows of a kind (of covers all least ones), a list in order."""
    if kind == "cover":
        return sorted([what_is_left(web, row) for row in all_grown(web, "apart")])
    return all_grown(web, kind)


def next_row(web, kind, row):
    """The next behind a greatest row (of covers a least one), None behind the last, or NoRow."""
    rows = all_rows(web, kind)
    if row not in rows:
        raise NoRow(f"no greatest row of the kind {kind}, so there is no next one")
    behind = rows[rows.index(row) + 1:]
    return behind[0] if behind else None
