"""Kept webs: the greatest rows of a kind while the web changes."""

from eachgreatest.errors import NoName
from eachgreatest.orders import all_rows
from eachgreatest.webs import check_names, web_without

NO_PLACES = ((), ())


def web_with(web, name):
    """The web with one name more, or NoName where it is there already."""
    names, ties = web
    if name in names:
        raise NoName(name)
    return tuple(sorted([*names, name])), ties


def web_untied(web, one, other):
    """The web without the tie of two names, also where there is none, or NoName."""
    check_names(web, (one, other))
    names, ties = web
    return names, tuple([tie for tie in ties if tie != (one, other) and tie != (other, one)])


def web_tied(web, one, other):
    """The web with the tie of two names, also where there is one already, or NoName."""
    names, ties = web_untied(web, one, other)
    return names, tuple(sorted([*ties, (min(one, other), max(one, other))]))


class KeptSets:
    """A web that is changed by deeds, and its greatest rows of a kind."""

    def __init__(self, kind):
        self.kind = kind
        self.web = NO_PLACES
        self.rows = all_rows(NO_PLACES, kind)

    def become(self, web):
        """Keep another web; told are the rows that came and those that went."""
        ahead = self.rows
        behind = all_rows(web, self.kind)
        self.web = web
        self.rows = behind
        came = [row for row in behind if row not in ahead]
        went = [row for row in ahead if row not in behind]
        return came, went

    def put_name(self, name):
        """Put a name in, or NoName."""
        return self.become(web_with(self.web, name))

    def take_name(self, name):
        """Take a name out, with its ties, or NoName."""
        return self.become(web_without(self.web, (name,)))

    def tie_names(self, one, other):
        """Tie two names, or NoName."""
        return self.become(web_tied(self.web, one, other))

    def untie_names(self, one, other):
        """Untie two names, or NoName."""
        return self.become(web_untied(self.web, one, other))

    def web_now(self):
        """The web as it is now."""
        return self.web

    def rows_now(self):
        """All greatest rows as they are now, a list in order."""
        return list(self.rows)
