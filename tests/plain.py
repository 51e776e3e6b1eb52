"""What the tests share: webs to try, and the document's words said slowly."""

from functools import lru_cache
from itertools import combinations

KINDS = ("tied", "apart", "cover")
WORDS = ("web put take tie untie show first next all count sizes biggest fill "
         "tied apart cover").split()

NONE = ((), ())
ONE = (("a",), ())
PATH = (("a", "b", "c", "d"), (("a", "b"), ("b", "c"), ("c", "d")))
HOUSE = (("a", "b", "c", "d", "e"),
         (("a", "b"), ("a", "c"), ("b", "c"), ("b", "d"), ("c", "e"), ("d", "e")))
STAR = (("hub", "x", "y", "z"), (("hub", "x"), ("hub", "y"), ("hub", "z")))
BEGINNINGS = (("a", "aa", "aaa", "ab", "b"), (("a", "aa"), ("a", "b"), ("aa", "aaa")))
FOURTEEN = tuple("abcdefghijklmn")
LONG_FOURTEEN = tuple("longname"[:7] + letter for letter in FOURTEEN)


def without_ties(names):
    return (names, ())


def all_tied(names):
    return (names, tuple(combinations(names, 2)))


def some_tied(names, step):
    """A web with ties here and there, the same at each run."""
    pairs = list(combinations(names, 2))
    return (names, tuple(pair for at, pair in enumerate(pairs) if at * at % step in (0, 1)))


def in_a_row(names):
    return (names, tuple(zip(names, names[1:])))


def in_a_ring(names):
    return (names, tuple(sorted([*zip(names, names[1:]), (names[0], names[-1])])))


def in_groups(names, size):
    """Names next to each other are tied in groups of a size, the last perhaps smaller."""
    where = {name: at // size for at, name in enumerate(names)}
    return (names, tuple(pair for pair in combinations(names, 2)
                         if where[pair[0]] == where[pair[1]]))


def on_two_sides(names):
    """Each second name is tied to each of the others."""
    return (names, tuple(pair for pair in combinations(names, 2)
                         if (names.index(pair[0]) + names.index(pair[1])) % 2))


def with_the_other_ties(web):
    return (web[0], tuple(pair for pair in combinations(web[0], 2) if pair not in web[1]))


def all_shapes(names):
    """Webs of no ties, all, few, half and many, a row, a ring, groups, two sides."""
    return [without_ties(names), all_tied(names), some_tied(names, 11), some_tied(names, 7),
            with_the_other_ties(some_tied(names, 11)), in_a_row(names), in_a_ring(names),
            in_groups(names, 3), with_the_other_ties(in_groups(names, 3)), in_groups(names, 2),
            on_two_sides(names), with_the_other_ties(in_a_ring(names))]


FEW = [NONE, ONE, PATH, HOUSE, STAR, BEGINNINGS,
       without_ties(("a", "b", "c")), all_tied(("a", "b", "c")),
       some_tied(tuple("abcdefg"), 5), some_tied(tuple("abcdefg"), 7)]
MANY = [without_ties(FOURTEEN), all_tied(FOURTEEN), some_tied(FOURTEEN, 3),
        some_tied(FOURTEEN, 11), all_tied(LONG_FOURTEEN), some_tied(LONG_FOURTEEN, 5)]

# Names whose order is not that of their length or of their last letters.
SEVEN = ("b", "ba", "bab", "c", "ca", "cab", "zz")
ELEVEN = tuple("abcdefghijk")
SHAPES = [*FEW, *all_shapes(SEVEN), *all_shapes(ELEVEN)]
BIG_SHAPES = all_shapes(FOURTEEN)


def all_small_webs():
    """Each web of the names a to d."""
    names = tuple("abcd")
    pairs = list(combinations(names, 2))
    for many in range(len(pairs) + 1):
        for ties in combinations(pairs, many):
            yield (names, ties)


def rows_of(web):
    """Each row of the web's names."""
    for many in range(len(web[0]) + 1):
        yield from combinations(web[0], many)


def slowly_of(web, kind, row):
    pairs = set(combinations(row, 2))
    if kind == "tied":
        return pairs <= set(web[1])
    if kind == "apart":
        return not pairs & set(web[1])
    return all(set(tie) & set(row) for tie in web[1])


def slowly_greatest(web, kind, row):
    """By all bigger rows (of covers all smaller ones), not only by one name."""
    if not slowly_of(web, kind, row):
        return False
    for other in rows_of(web):
        if kind == "cover" and set(other) < set(row) and slowly_of(web, kind, other):
            return False
        if kind != "cover" and set(other) > set(row) and slowly_of(web, kind, other):
            return False
    return True


def slowly_filled(web, kind, row):
    held = set(row)
    order = web[0][::-1] if kind == "cover" else web[0]
    for name in order:
        tried = held - {name} if kind == "cover" else held | {name}
        if slowly_of(web, kind, tuple(sorted(tried))):
            held = tried
    return tuple(sorted(held))


@lru_cache(maxsize=None)
def slowly_all(web, kind):
    """All greatest rows, by one name more (of covers less), as a tuple in order."""
    rows = {row for row in rows_of(web) if slowly_of(web, kind, row)}
    told = []
    for row in rows:
        if kind == "cover":
            others = [set(row) - {name} for name in row]
        else:
            others = [set(row) | {name} for name in web[0] if name not in row]
        if not any(tuple(sorted(other)) in rows for other in others):
            told.append(row)
    return tuple(sorted(told))


def slowly_begun(web, kind, row, name):
    """What is filled of a told row and a name that is not in it, or None where nothing is."""
    begun = [other for other in row if other < name and slowly_of(web, kind, (other, name))]
    begun.append(name)
    for other in web[0]:
        if other < name and other not in begun:
            if slowly_of(web, kind, tuple(sorted([*begun, other]))):
                return None
    return tuple(begun)


def slowly_walked(web, kind):
    """What each asking of a walk tells, and fillings, waiting and told behind it."""
    wait = {slowly_filled(web, kind, ())}
    told = []
    fillings = 0
    while wait:
        row = sorted(wait)[0]
        wait.remove(row)
        told.append(row)
        for name in web[0]:
            if name in row:
                continue
            begun = slowly_begun(web, kind, row, name)
            if begun is None:
                continue
            fillings += 1
            comes = slowly_filled(web, kind, begun)
            if comes not in told:
                wait.add(comes)
        yield row, fillings, len(wait), len(told)


def in_crossed_parts(names, many):
    """Each name is tied to that so many places behind it: parts whose names stand mixed."""
    return (names, tuple(zip(names, names[many:])))


def slowly_parts(web):
    """The parts, by joining the parts of the two names of each tie."""
    parts = [{name} for name in web[0]]
    for tie in web[1]:
        joined = set().union(*(part for part in parts if part & set(tie)))
        parts = [part for part in parts if not part & joined] + [joined]
    return tuple(sorted(tuple(sorted(part)) for part in parts))


def alone(web, names):
    """The web by some names alone."""
    return (names, tuple(tie for tie in web[1] if set(tie) <= set(names)))


def rows_of_ties(web):
    """Each row of the web's ties, in order."""
    for many in range(len(web[1]) + 1):
        yield from combinations(web[1], many)


def slowly_ties_apart(web, ties):
    if list(ties) != sorted(ties) or not all(tie in web[1] for tie in ties):
        return False
    return not any(set(one) & set(other) for one, other in combinations(ties, 2))


@lru_cache(maxsize=None)
def slowly_all_ties_apart(web):
    """All greatest rows of ties apart, by one tie more, as a tuple in order."""
    rows = {row for row in rows_of_ties(web) if slowly_ties_apart(web, row)}
    return tuple(sorted(row for row in rows if not any(
        tuple(sorted([*row, tie])) in rows for tie in web[1] if tie not in row)))
