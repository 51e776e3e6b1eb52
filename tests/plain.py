"""What the tests share: webs to try, and the document's words said slowly."""

from itertools import combinations

KINDS = ("tied", "apart", "cover")
WORDS = ("web put take tie untie show first next all count sizes biggest fill "
         "tied apart cover").split()

NONE = ((), ())
ONE = (("a",), ())
PATH = (("a", "b", "c", "d"), (("a", "b"), ("b", "c"), ("c", "d")))
HOUSE = (("a", "b", "c", "d", "e"),
         (("a", "b"), ("a", "c"), ("b", "c"), ("b", "d"), ("c", "e"), ("d", "e")))
STAR = (("hub", "x", "y", "z"), (("hub", "x"), ("hub", "y"), ("hub", "z")))
BEGINNINGS = (("a", "aa", "aaa", "ab", "b"), (("a", "aa"), ("a", "b"), ("aa", "aaa")))
FOURTEEN = tuple("abcdefghijklmn")
LONG_FOURTEEN = tuple("longname"[:7] + letter for letter in FOURTEEN)


def without_ties(names):
    return (names, ())


def all_tied(names):
    return (names, tuple(combinations(names, 2)))


def some_tied(names, step):
    """A web with ties here and there, the same at each run."""
    pairs = list(combinations(names, 2))
    return (names, tuple(pair for at, pair in enumerate(pairs) if at * at % step in (0, 1)))


FEW = [NONE, ONE, PATH, HOUSE, STAR, BEGINNINGS,
       without_ties(("a", "b", "c")), all_tied(("a", "b", "c")),
       some_tied(tuple("abcdefg"), 5), some_tied(tuple("abcdefg"), 7)]
MANY = [without_ties(FOURTEEN), all_tied(FOURTEEN), some_tied(FOURTEEN, 3),
        some_tied(FOURTEEN, 11), all_tied(LONG_FOURTEEN), some_tied(LONG_FOURTEEN, 5)]


def all_small_webs():
    """Each web of the names a to d."""
    names = tuple("abcd")
    pairs = list(combinations(names, 2))
    for many in range(len(pairs) + 1):
        for ties in combinations(pairs, many):
            yield (names, ties)


def rows_of(web):
    """Each row of the web's names."""
    for many in range(len(web[0]) + 1):
        yield from combinations(web[0], many)


def slowly_of(web, kind, row):
    pairs = set(combinations(row, 2))
    if kind == "tied":
        return pairs <= set(web[1])
    if kind == "apart":
        return not pairs & set(web[1])
    return all(set(tie) & set(row) for tie in web[1])


def slowly_greatest(web, kind, row):
    """By all bigger rows (of covers all smaller ones), not only by one name."""
    if not slowly_of(web, kind, row):
        return False
    for other in rows_of(web):
        if kind == "cover" and set(other) < set(row) and slowly_of(web, kind, other):
            return False
        if kind != "cover" and set(other) > set(row) and slowly_of(web, kind, other):
            return False
    return True


def slowly_filled(web, kind, row):
    held = set(row)
    order = web[0][::-1] if kind == "cover" else web[0]
    for name in order:
        tried = held - {name} if kind == "cover" else held | {name}
        if slowly_of(web, kind, tuple(sorted(tried))):
            held = tried
    return tuple(sorted(held))
