"""Rows of ties of which no two have a name in common."""

from eachgreatest.orders import all_rows
from eachgreatest.webs import pairs_of

LETTERS = "abcdefghijklmnopqrstuvwxyz"


def names_in(ties):
    """The names of some ties, one behind another."""
    return [name for tie in ties for name in tie]


def ties_apart(web, ties):
    """Whether a tuple holds ties of the web, in order, of which no two have a name in common."""
    names = names_in(ties)
    in_order = ties == tuple([tie for tie in web[1] if tie in ties])
    return in_order and len(set(names)) == len(names)


def ties_greatest(web, ties):
    """Whether a tuple is such a row of ties, and no tie can be put to it."""
    names = names_in(ties)
    fits = any([one not in names and other not in names for one, other in web[1]])
    return ties_apart(web, ties) and not fits


def tie_name(at):
    """The name that a tie's number has in the web of the ties."""
    # Behind z stand za to zz, then zza: so names stay in the order of the numbers.
    return "z" * (at // len(LETTERS)) + LETTERS[at % len(LETTERS)]


def web_of_ties(web):
    """The web of the ties: their numbers as names, tied where two ties have a name in common."""
    held = {tie_name(at): tie for at, tie in enumerate(web[1])}
    names = tuple(held)
    ties = [(one, other) for one, other in pairs_of(names)
            if held[one][0] in held[other] or held[one][1] in held[other]]
    return names, tuple(ties)


def all_ties_apart(web):
    """All greatest rows of ties of which no two have a name in common, a list in order."""
    held = {tie_name(at): tie for at, tie in enumerate(web[1])}
    return [tuple([held[name] for name in row]) for row in all_rows(web_of_ties(web), "apart")]
