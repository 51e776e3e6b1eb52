"""Walks: the greatest rows of a web one by one, in order."""

from eachgreatest.kinds import grown
from eachgreatest.orders import begun_row, is_full_ahead
from eachgreatest.webs import tie_table


def rows_led_to(web, table, kind, row):
    """What the fillings of a greatest row bring, a row for each filling."""
    comes = []
    for name in web[0]:
        if name not in row:
            begun = begun_row(table, kind, row, name)
            if is_full_ahead(web, table, kind, begun, name):
                comes.append(grown(web, table, kind, begun))
    return comes


class Walk:
    """A walk through the greatest rows of a web, of "tied" or of "apart"."""

    def __init__(self, web, kind):
        self.web = web
        self.kind = kind
        self.table = tie_table(web)
        first = grown(web, self.table, kind, ())
        self.queue = [first]
        # The rows that wait and those that were told: none of them waits a second time.
        self.found = {first: True}
        self.filled_times = 0

    def tell(self):
        """The next row, or None behind the last."""
        if not self.queue:
            return None
        row = min(self.queue)
        self.queue.remove(row)
        comes = rows_led_to(self.web, self.table, self.kind, row)
        self.filled_times += len(comes)
        for other in comes:
            if other not in self.found:
                self.found[other] = True
                self.queue.append(other)
        return row

    def fillings(self):
        """How many fillings were done, the one at the begin not counted."""
        return self.filled_times

    def waiting(self):
        """How many rows wait."""
        return len(self.queue)

    def told(self):
        """How many rows were told."""
        return len(self.found) - len(self.queue)
