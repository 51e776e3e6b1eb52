import unittest
from itertools import combinations, permutations

from eachgreatest.orders import all_rows
from eachgreatest.papers import all_shown
from tests.plain import (BEGINNINGS, BIG_SHAPES, FEW, FOURTEEN, HOUSE, MANY, NONE, ONE, PATH,
                         SHAPES, all_small_webs, all_tied, in_a_ring, in_groups, rows_of,
                         slowly_all, without_ties)

PAPER_KINDS = ("tied", "apart")


class PapersTest(unittest.TestCase):
    def assert_shown(self, web, kind, rows, told):
        ahead = repr((web, rows))
        for again in range(2):
            self.assertIs(all_shown(web, kind, rows), told, (web, kind, rows))
        self.assertEqual(repr((web, rows)), ahead)

    def each_list(self, webs):
        for web in webs:
            for kind in PAPER_KINDS:
                yield web, kind, list(slowly_all(web, kind))

    def assert_none_in_the_place(self, web, kind, rows, other):
        """A row that is not greatest, in the place of each one and put to them in order."""
        for at in range(len(rows)):
            self.assert_shown(web, kind, [*rows[:at], other, *rows[at + 1:]], False)
        self.assert_shown(web, kind, sorted([*rows, other]), False)
        self.assert_shown(web, kind, [*rows, other], False)

    def test_lists_written_out(self):
        self.assert_shown(HOUSE, "tied", [("a", "b", "c"), ("b", "d"), ("c", "e"), ("d", "e")], True)
        self.assert_shown(HOUSE, "tied", [("a", "b", "c"), ("b", "d"), ("c", "e")], False)
        self.assert_shown(HOUSE, "tied", [("b", "d"), ("c", "e"), ("d", "e")], False)
        self.assert_shown(HOUSE, "tied", [("a", "b", "c"), ("b", "d"), ("d", "e"), ("c", "e")], False)
        self.assert_shown(PATH, "apart", [("a", "c"), ("a", "d"), ("b", "d")], True)
        self.assert_shown(PATH, "apart", [("a", "c"), ("a", "d"), ("b", "c")], False)
        self.assert_shown(PATH, "apart", [("a", "c"), ("a", "c"), ("a", "d"), ("b", "d")], False)

    def test_no_name_one_no_ties_and_all(self):
        single = [(name,) for name in FOURTEEN]
        for kind in PAPER_KINDS:
            self.assert_shown(NONE, kind, [()], True)
            self.assert_shown(NONE, kind, [(), ()], False)
            self.assert_shown(NONE, kind, [("a",)], False)
            self.assert_shown(NONE, kind, [(), ("a",)], False)
            self.assert_shown(ONE, kind, [("a",)], True)
            self.assert_shown(ONE, kind, [()], False)
            self.assert_shown(ONE, kind, [(), ("a",)], False)
        self.assert_shown(without_ties(FOURTEEN), "apart", [FOURTEEN], True)
        self.assert_shown(without_ties(FOURTEEN), "apart", single, False)
        self.assert_shown(without_ties(FOURTEEN), "tied", single, True)
        self.assert_shown(without_ties(FOURTEEN), "tied", single[:-1], False)
        self.assert_shown(all_tied(FOURTEEN), "tied", [FOURTEEN], True)
        self.assert_shown(all_tied(FOURTEEN), "apart", single, True)
        self.assert_shown(all_tied(FOURTEEN), "apart", [FOURTEEN], False)

    def test_all_rows_and_the_empty_list(self):
        for web, kind, rows in self.each_list([*SHAPES, *BIG_SHAPES, *MANY, *all_small_webs()]):
            self.assert_shown(web, kind, rows, True)
            self.assert_shown(web, kind, all_rows(web, kind), True)
            self.assert_shown(web, kind, [], False)

    def test_without_one(self):
        for web, kind, rows in self.each_list([*SHAPES, *all_small_webs()]):
            for at in range(len(rows)):
                self.assert_shown(web, kind, rows[:at] + rows[at + 1:], False)

    def test_without_the_first_the_middle_or_the_last_of_fourteen_names(self):
        for web, kind, rows in self.each_list(BIG_SHAPES):
            for at in (0, len(rows) // 2, len(rows) - 1):
                self.assert_shown(web, kind, rows[:at] + rows[at + 1:], False)

    def test_just_the_whole_of_all_parts_of_the_list(self):
        for web, kind, rows in self.each_list([*FEW, *all_small_webs(), in_a_ring(tuple("abcdefg"))]):
            for many in range(len(rows) + 1):
                for some in combinations(rows, many):
                    self.assert_shown(web, kind, list(some), many == len(rows))

    def test_one_twice(self):
        for web, kind, rows in self.each_list([*SHAPES, *all_small_webs()]):
            for at in range(len(rows)):
                self.assert_shown(web, kind, rows[:at + 1] + rows[at:], False)
            self.assert_shown(web, kind, [*rows, rows[0]], False)
            self.assert_shown(web, kind, rows + rows, False)

    def test_two_exchanged_and_from_behind(self):
        for web, kind, rows in self.each_list([*SHAPES, *all_small_webs()]):
            for at in range(len(rows) - 1):
                other = [*rows[:at], rows[at + 1], rows[at], *rows[at + 2:]]
                self.assert_shown(web, kind, other, False)
            if len(rows) > 1:
                self.assert_shown(web, kind, rows[::-1], False)
                self.assert_shown(web, kind, [rows[-1], *rows[1:-1], rows[0]], False)

    def test_a_row_that_is_not_greatest(self):
        for web, kind, rows in self.each_list([*FEW, *all_small_webs()]):
            for other in rows_of(web):
                if other not in rows:
                    self.assert_none_in_the_place(web, kind, rows, other)

    def test_strange_names_a_name_twice_or_not_in_order(self):
        for web, kind, rows in self.each_list([HOUSE, PATH, BEGINNINGS, in_groups(tuple("abcde"), 3)]):
            for row in rows:
                for name in ("q", "aab", "zz", "tie"):
                    self.assert_none_in_the_place(web, kind, rows, (name,))
                    self.assert_none_in_the_place(web, kind, rows, (*row[:-1], name))
                    self.assert_none_in_the_place(web, kind, rows, tuple(sorted([*row, name])))
                for name in row:
                    self.assert_none_in_the_place(web, kind, rows, tuple(sorted([*row, name])))
                    self.assert_none_in_the_place(web, kind, rows, (*row, name))
                for other in permutations(row):
                    if other != row:
                        self.assert_none_in_the_place(web, kind, rows, other)

    def test_the_list_of_the_other_kind(self):
        for web in [*SHAPES, *BIG_SHAPES, *all_small_webs()]:
            tied, apart = (list(slowly_all(web, kind)) for kind in PAPER_KINDS)
            self.assert_shown(web, "tied", apart, tied == apart)
            self.assert_shown(web, "apart", tied, tied == apart)

    def test_the_list_of_another_web(self):
        webs = list(all_small_webs())
        for web, kind, rows in self.each_list(webs):
            for other in webs[::5]:
                self.assert_shown(other, kind, rows, other == web)


if __name__ == "__main__":
    unittest.main()
