"""Counts: the parts of a web, how many greatest rows there are, and the biggest."""

from eachgreatest.orders import all_rows
from eachgreatest.webs import tie_table


def part_around(web, table, name):
    """The names that ties lead to from a name, and this name, in order."""
    part = (name,)
    while True:
        wider = tuple([other for other in web[0]
                       if other in part or any([(other, one) in table for one in part])])
        if wider == part:
            return part
        part = wider


def parts_of(web):
    """The parts whose names hang together, in the order of their first names."""
    table = tie_table(web)
    parts = []
    for name in web[0]:
        if not any([name in part for part in parts]):
            parts.append(part_around(web, table, name))
    return tuple(parts)


def count_rows(web, kind):
    """How many greatest rows of a kind (of covers least ones) there are."""
    return len(all_rows(web, kind))


def count_by_size(web, kind):
    """Pairs (many, how many): how many greatest rows have so many names."""
    counted = {}
    for row in all_rows(web, kind):
        counted[len(row)] = counted.get(len(row), 0) + 1
    return tuple(sorted(counted.items()))


def biggest(web, kind):
    """The greatest rows with the most names, of covers the least ones with the fewest, in order."""
    rows = all_rows(web, kind)
    sizes = [len(row) for row in rows]
    wanted = min(sizes) if kind == "cover" else max(sizes)
    return [row for row in rows if len(row) == wanted]
