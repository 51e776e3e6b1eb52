import unittest
from itertools import permutations

from eachgreatest.errors import NoAsk, NoName, NoRow, NoWeb, SetError
from eachgreatest.kinds import filled, is_greatest
from eachgreatest.orders import all_rows, next_row
from tests.plain import (BEGINNINGS, BIG_SHAPES, FEW, FOURTEEN, HOUSE, KINDS, LONG_FOURTEEN, MANY,
                         NONE, ONE, PATH, SHAPES, STAR, all_small_webs, all_tied, in_groups,
                         rows_of, slowly_all, with_the_other_ties, without_ties)

ALL_WEBS = [*SHAPES, *BIG_SHAPES, *MANY, *all_small_webs()]


def left_of(web, row):
    return tuple(name for name in web[0] if name not in row)


class AllRowsTest(unittest.TestCase):
    def assert_all(self, web, kind, told):
        rows = all_rows(web, kind)
        self.assertIs(type(rows), list)
        self.assertEqual(rows, told, (web, kind))
        for row in rows:
            self.assertIs(type(row), tuple)

    def test_rows_written_out(self):
        self.assert_all(HOUSE, "tied", [("a", "b", "c"), ("b", "d"), ("c", "e"), ("d", "e")])
        self.assert_all(HOUSE, "apart", [("a", "d"), ("a", "e"), ("b", "e"), ("c", "d")])
        self.assert_all(HOUSE, "cover", [("a", "b", "e"), ("a", "c", "d"), ("b", "c", "d"),
                                         ("b", "c", "e")])
        self.assert_all(PATH, "tied", [("a", "b"), ("b", "c"), ("c", "d")])
        self.assert_all(PATH, "apart", [("a", "c"), ("a", "d"), ("b", "d")])
        self.assert_all(PATH, "cover", [("a", "c"), ("b", "c"), ("b", "d")])
        self.assert_all(STAR, "apart", [("hub",), ("x", "y", "z")])
        self.assert_all(STAR, "cover", [("hub",), ("x", "y", "z")])

    def test_names_that_are_beginnings_of_one_another(self):
        self.assert_all(BEGINNINGS, "tied", [("a", "aa"), ("a", "b"), ("aa", "aaa"), ("ab",)])
        self.assert_all(BEGINNINGS, "apart", [("a", "aaa", "ab"), ("aa", "ab", "b"),
                                              ("aaa", "ab", "b")])

    def test_no_name_and_one(self):
        for kind in KINDS:
            self.assert_all(NONE, kind, [()])
        self.assert_all(ONE, "tied", [("a",)])
        self.assert_all(ONE, "apart", [("a",)])
        self.assert_all(ONE, "cover", [()])

    def test_no_ties_and_all(self):
        single = [(name,) for name in FOURTEEN]
        self.assert_all(without_ties(FOURTEEN), "tied", single)
        self.assert_all(without_ties(FOURTEEN), "apart", [FOURTEEN])
        self.assert_all(without_ties(FOURTEEN), "cover", [()])
        self.assert_all(all_tied(FOURTEEN), "tied", [FOURTEEN])
        self.assert_all(all_tied(FOURTEEN), "apart", single)
        self.assert_all(all_tied(FOURTEEN), "cover",
                        [left_of(all_tied(FOURTEEN), row) for row in reversed(single)])

    def test_the_most_that_there_may_be(self):
        for names in (FOURTEEN, LONG_FOURTEEN):
            groups = in_groups(names, 3)
            self.assertEqual(len(all_rows(groups, "apart")), 3 * 3 * 3 * 3 * 2)
            self.assertEqual(len(all_rows(groups, "cover")), 3 * 3 * 3 * 3 * 2)
            self.assertEqual(len(all_rows(groups, "tied")), 5)
            self.assertEqual(len(all_rows(with_the_other_ties(groups), "tied")), 162)

    def test_each_web_as_the_document_says(self):
        for web in ALL_WEBS:
            for kind in KINDS:
                self.assert_all(web, kind, list(slowly_all(web, kind)))

    def test_it_rises_and_each_is_greatest(self):
        for web in ALL_WEBS:
            for kind in KINDS:
                rows = all_rows(web, kind)
                self.assertTrue(all(one < other for one, other in zip(rows, rows[1:])))
                self.assertTrue(all(is_greatest(web, kind, row) for row in rows))

    def test_the_first_comes_of_filling_none(self):
        for web in ALL_WEBS:
            for kind in ("tied", "apart"):
                self.assertEqual(all_rows(web, kind)[0], filled(web, kind, ()))

    def test_least_covers_are_what_apart_rows_leave(self):
        for web in ALL_WEBS:
            apart = all_rows(web, "apart")
            covers = all_rows(web, "cover")
            self.assertEqual(covers, sorted(left_of(web, row) for row in apart))
            self.assertEqual(apart, sorted(left_of(web, row) for row in covers))

    def test_tied_rows_are_apart_in_the_web_turned_over(self):
        for web in ALL_WEBS:
            self.assertEqual(all_rows(web, "tied"), all_rows(with_the_other_ties(web), "apart"))

    def test_the_told_list_is_the_askers_own(self):
        for web in (NONE, HOUSE, in_groups(FOURTEEN, 3)):
            for kind in KINDS:
                ahead = repr(web)
                rows = all_rows(web, kind)
                kept = list(rows)
                other = all_rows(web, kind)
                rows.clear()
                self.assertEqual(other, kept)
                self.assertEqual(all_rows(web, kind), kept)
                self.assertEqual(repr(web), ahead)


class NextRowTest(unittest.TestCase):
    def assert_no_row(self, web, kind, row):
        for again in range(2):
            with self.assertRaises(NoRow, msg=(web, kind, row)) as caught:
                next_row(web, kind, row)
        self.assertIsInstance(caught.exception, SetError)
        self.assertIsInstance(caught.exception, ValueError)
        self.assertNotIsInstance(caught.exception, (NoWeb, NoAsk, NoName))

    def test_rows_written_out(self):
        self.assertEqual(next_row(HOUSE, "tied", ("a", "b", "c")), ("b", "d"))
        self.assertEqual(next_row(HOUSE, "tied", ("c", "e")), ("d", "e"))
        self.assertIsNone(next_row(HOUSE, "tied", ("d", "e")))
        self.assertEqual(next_row(HOUSE, "apart", ("a", "d")), ("a", "e"))
        self.assertIsNone(next_row(HOUSE, "apart", ("c", "d")))
        self.assertEqual(next_row(HOUSE, "cover", ("a", "c", "d")), ("b", "c", "d"))
        self.assertIsNone(next_row(HOUSE, "cover", ("b", "c", "e")))

    def test_no_name_and_one(self):
        for kind in KINDS:
            self.assertIsNone(next_row(NONE, kind, ()))
            self.assert_no_row(NONE, kind, ("a",))
        for kind in ("tied", "apart"):
            self.assertIsNone(next_row(ONE, kind, ("a",)))
            self.assert_no_row(ONE, kind, ())
        self.assertIsNone(next_row(ONE, "cover", ()))
        self.assert_no_row(ONE, "cover", ("a",))

    def test_each_row_leads_to_the_one_behind_it(self):
        for web in [*SHAPES, *all_small_webs()]:
            for kind in KINDS:
                rows = slowly_all(web, kind)
                for row, behind in zip(rows, [*rows[1:], None]):
                    for again in range(2):
                        self.assertEqual(next_row(web, kind, row), behind, (web, kind, row))

    def test_first_middle_and_last_of_fourteen_names(self):
        for web in BIG_SHAPES:
            for kind in KINDS:
                rows = slowly_all(web, kind)
                for at in {0, len(rows) // 2, len(rows) - 1}:
                    behind = rows[at + 1] if at + 1 < len(rows) else None
                    self.assertEqual(next_row(web, kind, rows[at]), behind)

    def test_each_row_that_is_not_greatest_is_refused(self):
        for web in [*FEW, *all_small_webs()]:
            for kind in KINDS:
                for row in rows_of(web):
                    if row not in slowly_all(web, kind):
                        self.assert_no_row(web, kind, row)

    def test_a_name_less_or_more_none_and_all(self):
        for web in BIG_SHAPES:
            for kind in KINDS:
                rows = slowly_all(web, kind)
                row = rows[len(rows) // 2]
                for name in web[0]:
                    self.assert_no_row(web, kind, tuple(sorted({*row} ^ {name})))
                for other in ((), web[0]):
                    if other not in rows:
                        self.assert_no_row(web, kind, other)

    def test_other_tuples_of_names_are_refused(self):
        for kind in KINDS:
            for row in slowly_all(HOUSE, kind):
                for other in permutations(row):
                    if other != row:
                        self.assert_no_row(HOUSE, kind, other)
                for name in row:
                    self.assert_no_row(HOUSE, kind, tuple(sorted([*row, name])))
                    self.assert_no_row(HOUSE, kind, (*row, name))
                for name in ("x", "aa", "bb", "tie"):
                    self.assert_no_row(HOUSE, kind, tuple(sorted([*row, name])))
                    self.assert_no_row(HOUSE, kind, (name, *row[1:]))
                    self.assert_no_row(HOUSE, kind, (name,))

    def test_rows_of_another_kind_are_refused(self):
        for kind in KINDS:
            for other in KINDS:
                for row in slowly_all(HOUSE, other):
                    if row not in slowly_all(HOUSE, kind):
                        self.assert_no_row(HOUSE, kind, row)
        self.assert_no_row(PATH, "tied", ("a", "c"))
        self.assert_no_row(PATH, "apart", ("a", "b"))
        self.assert_no_row(PATH, "cover", ("a", "d"))

    def test_nothing_handed_in_is_changed(self):
        row = ("a", "d")
        ahead = repr((HOUSE, row))
        next_row(HOUSE, "apart", row)
        self.assert_no_row(HOUSE, "tied", row)
        self.assertEqual(repr((HOUSE, row)), ahead)


if __name__ == "__main__":
    unittest.main()
