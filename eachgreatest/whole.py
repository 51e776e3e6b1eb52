"""The desk: webs kept under names, asked by lines of words."""

from eachgreatest.counts import biggest, count_by_size, count_rows
from eachgreatest.errors import NoAsk
from eachgreatest.kept import NO_PLACES, web_tied, web_untied, web_with
from eachgreatest.kinds import KINDS, filled
from eachgreatest.orders import all_rows, next_row
from eachgreatest.webs import is_name, is_row, web_shown, web_without


def put_in(web, places):
    """The web with some places more, or NoName."""
    for place in places:
        web = web_with(web, place)
    return web


def take_out(web, places):
    """The web without one place, or NoName."""
    return web_without(web, places)


def tie_two(web, places):
    """The web with two places tied, or NoName."""
    return web_tied(web, places[0], places[1])


def untie_two(web, places):
    """The web with two places not tied, or NoName."""
    return web_untied(web, places[0], places[1])


def written(rows):
    """A text for each row of places."""
    return [" ".join(row) for row in rows]


def tell_first(web, kind, row):
    """The first greatest row."""
    return written(all_rows(web, kind)[:1])


def tell_next(web, kind, row):
    """The next behind a greatest row, where there is one, or NoRow."""
    behind = next_row(web, kind, row)
    return [] if behind is None else written([behind])


def tell_all(web, kind, row):
    """All greatest rows."""
    return written(all_rows(web, kind))


def tell_count(web, kind, row):
    """How many greatest rows there are."""
    return [str(count_rows(web, kind))]


def tell_sizes(web, kind, row):
    """How many greatest rows have so many places."""
    return [f"{many} {how_many}" for many, how_many in count_by_size(web, kind)]


def tell_biggest(web, kind, row):
    """The biggest of the greatest rows."""
    return written(biggest(web, kind))


def tell_filled(web, kind, row):
    """What comes of filling a row, or NoRow."""
    return written([filled(web, kind, row)])


DEEDS = {"put": put_in, "take": take_out, "tie": tie_two, "untie": untie_two}
# What is asked of a kind: here a kind stands behind the web's name.
ASKINGS = {
    "first": tell_first, "next": tell_next, "all": tell_all, "count": tell_count,
    "sizes": tell_sizes, "biggest": tell_biggest, "fill": tell_filled,
}
# How many places stand in a line at least; more of them only behind the words of MAY_HAVE_MORE.
PLACES = {
    "web": 0, "put": 1, "take": 1, "tie": 2, "untie": 2, "show": 0, "first": 0, "next": 0,
    "all": 0, "count": 0, "sizes": 0, "biggest": 0, "fill": 0,
}
MAY_HAVE_MORE = ("put", "next", "fill")


def takes_places(word, many):
    """Whether a line of this word has so many places."""
    if word not in PLACES or many < PLACES[word]:
        return False
    return many == PLACES[word] or word in MAY_HAVE_MORE


def read_line(line):
    """A line's word, its web's name, its kind (or None) and its places, or NoAsk."""
    word, *others = line.split(" ")
    ahead = 2 if word in ASKINGS else 1
    if not takes_places(word, len(others) - ahead):
        raise NoAsk("no line that the desk knows")
    name = others[0]
    kind = others[1] if word in ASKINGS else None
    places = tuple(others[ahead:])
    if kind is not None and kind not in KINDS:
        raise NoAsk(f"no kind: {kind}")
    if not all([is_name(other) for other in (name, *places)]):
        raise NoAsk("a name that is none")
    return word, name, kind, places


class Desk:
    """Webs kept under names."""

    def __init__(self):
        self.webs = {}

    def ask(self, line):
        """The rows that a line asks for, or NoAsk, NoName or NoRow."""
        word, name, kind, places = read_line(line)
        if word == "web":
            self.webs[name] = NO_PLACES
            return []
        if name not in self.webs:
            raise NoAsk(f"no web {name} is there")
        web = self.webs[name]
        if word == "show":
            return web_shown(web).split("\n")
        if word in DEEDS:
            deed = DEEDS[word]
            self.webs[name] = deed(web, places)
            return []
        # A row that the web cannot have is no asking; whether it is of the kind is told by NoRow.
        if not is_row(web, places):
            raise NoAsk("no row of places of the web")
        asking = ASKINGS[word]
        return asking(web, kind, places)
