"""Papers: whether a list that somebody wrote is all greatest rows."""

from eachgreatest.kinds import grown, is_greatest
from eachgreatest.walks import rows_led_to
from eachgreatest.webs import tie_table


def rises(rows):
    """Whether each row is behind the one ahead of it, so that none stands twice."""
    return all([one < other for one, other in zip(rows, rows[1:])])


def all_shown(web, kind, rows):
    """Whether a list is all greatest rows of "tied" or "apart", in order."""
    if not rises(rows) or not all([is_greatest(web, kind, row) for row in rows]):
        return False
    table = tie_table(web)
    held = {row: True for row in rows}
    if grown(web, table, kind, ()) not in held:
        return False
    return all([comes in held for row in rows for comes in rows_led_to(web, table, kind, row)])
