import unittest
from math import prod

from eachgreatest.counts import biggest, count_by_size, count_rows, parts_of
from eachgreatest.orders import all_rows
from tests.plain import (BEGINNINGS, BIG_SHAPES, ELEVEN, FOURTEEN, HOUSE, KINDS, LONG_FOURTEEN,
                         MANY, NONE, ONE, PATH, SEVEN, SHAPES, STAR, all_small_webs, all_tied,
                         alone, in_a_ring, in_a_row, in_crossed_parts, in_groups, slowly_all,
                         slowly_parts, with_the_other_ties, without_ties)

CROSSED = [in_crossed_parts(names, many)
           for names in (SEVEN, ELEVEN, FOURTEEN) for many in (2, 3, 4)]
ALL_WEBS = [*SHAPES, *BIG_SHAPES, *MANY, *CROSSED, *all_small_webs()]


class PartsTest(unittest.TestCase):
    def assert_parts(self, web, told):
        ahead = repr(web)
        for again in range(2):
            parts = parts_of(web)
            self.assertIs(type(parts), tuple)
            for part in parts:
                self.assertIs(type(part), tuple)
            self.assertEqual(parts, told, web)
        self.assertEqual(repr(web), ahead)

    def test_no_name_and_one(self):
        self.assert_parts(NONE, ())
        self.assert_parts(ONE, (("a",),))

    def test_no_ties_and_all(self):
        self.assert_parts(without_ties(FOURTEEN), tuple((name,) for name in FOURTEEN))
        self.assert_parts(all_tied(FOURTEEN), (FOURTEEN,))
        self.assert_parts(all_tied(LONG_FOURTEEN), (LONG_FOURTEEN,))

    def test_a_row_and_a_ring(self):
        for names in (SEVEN, ELEVEN, FOURTEEN):
            self.assert_parts(in_a_row(names), (names,))
            self.assert_parts(in_a_ring(names), (names,))
        self.assert_parts(PATH, (("a", "b", "c", "d"),))
        self.assert_parts(STAR, (("hub", "x", "y", "z"),))

    def test_a_row_of_names_that_leads_from_behind_to_the_front(self):
        # From a the way goes by d, then b, then e, then c: behind and ahead by turns.
        web = (tuple("abcde"), (("a", "d"), ("b", "d"), ("b", "e"), ("c", "e")))
        self.assert_parts(web, (tuple("abcde"),))

    def test_groups(self):
        self.assert_parts(in_groups(FOURTEEN, 3),
                          (tuple("abc"), tuple("def"), tuple("ghi"), tuple("jkl"), tuple("mn")))
        self.assert_parts(with_the_other_ties(in_groups(FOURTEEN, 3)), (FOURTEEN,))

    def test_names_of_several_parts_between_one_another(self):
        self.assert_parts(in_crossed_parts(SEVEN, 2),
                          (("b", "bab", "ca", "zz"), ("ba", "c", "cab")))
        self.assert_parts(in_crossed_parts(FOURTEEN, 4),
                          (tuple("aeim"), tuple("bfjn"), tuple("cgk"), tuple("dhl")))
        web = (tuple("abcdef"), (("a", "f"), ("b", "d"), ("c", "e")))
        self.assert_parts(web, (("a", "f"), ("b", "d"), ("c", "e")))
        web = (tuple("abcdef"), (("b", "f"), ("c", "d")))
        self.assert_parts(web, (("a",), ("b", "f"), ("c", "d"), ("e",)))
        self.assert_parts(BEGINNINGS, (("a", "aa", "aaa", "b"), ("ab",)))

    def test_each_web(self):
        for web in ALL_WEBS:
            self.assert_parts(web, slowly_parts(web))


class CountTest(unittest.TestCase):
    def test_numbers_written_out(self):
        for kind in KINDS:
            self.assertEqual(count_rows(NONE, kind), 1)
            self.assertEqual(count_rows(ONE, kind), 1)
            self.assertEqual(count_rows(HOUSE, kind), 4)
            self.assertEqual(count_rows(PATH, kind), 3)
        self.assertEqual([count_rows(STAR, kind) for kind in KINDS], [3, 2, 2])
        self.assertEqual([count_rows(without_ties(FOURTEEN), kind) for kind in KINDS], [14, 1, 1])
        self.assertEqual([count_rows(all_tied(FOURTEEN), kind) for kind in KINDS], [1, 14, 14])
        self.assertEqual([count_rows(in_groups(FOURTEEN, 3), kind) for kind in KINDS],
                         [5, 162, 162])

    def test_as_many_as_there_are(self):
        for web in ALL_WEBS:
            for kind in KINDS:
                ahead = repr(web)
                for again in range(2):
                    many = count_rows(web, kind)
                    self.assertIs(type(many), int)
                    self.assertEqual(many, len(slowly_all(web, kind)), (web, kind))
                    self.assertEqual(many, len(all_rows(web, kind)))
                self.assertEqual(repr(web), ahead)

    def numbers_by_parts(self, web, kind, parts):
        return [count_rows(alone(web, part), kind) for part in parts]

    def test_of_apart_and_cover_the_product_of_the_parts(self):
        for web in ALL_WEBS:
            for kind in ("apart", "cover"):
                numbers = self.numbers_by_parts(web, kind, parts_of(web))
                self.assertEqual(count_rows(web, kind), prod(numbers), (web, kind))

    def test_of_tied_the_sum_of_the_parts(self):
        for web in ALL_WEBS:
            numbers = self.numbers_by_parts(web, "tied", parts_of(web))
            self.assertEqual(count_rows(web, "tied"), sum(numbers) if web[0] else 1, web)

    def test_of_tied_the_product_of_the_parts_of_the_web_turned_over(self):
        for web in ALL_WEBS:
            over = with_the_other_ties(web)
            numbers = self.numbers_by_parts(web, "tied", parts_of(over))
            self.assertEqual(count_rows(web, "tied"), prod(numbers), web)
            numbers = self.numbers_by_parts(over, "apart", parts_of(over))
            self.assertEqual(count_rows(web, "tied"), prod(numbers), web)


class SizesTest(unittest.TestCase):
    def assert_sizes(self, web, kind, told):
        ahead = repr(web)
        for again in range(2):
            sizes = count_by_size(web, kind)
            self.assertIs(type(sizes), tuple)
            for pair in sizes:
                self.assertIs(type(pair), tuple)
                self.assertEqual([type(number) for number in pair], [int, int])
            self.assertEqual(sizes, told, (web, kind))
        self.assertEqual(repr(web), ahead)

    def test_sizes_written_out(self):
        for kind in KINDS:
            self.assert_sizes(NONE, kind, ((0, 1),))
        self.assert_sizes(ONE, "tied", ((1, 1),))
        self.assert_sizes(ONE, "apart", ((1, 1),))
        self.assert_sizes(ONE, "cover", ((0, 1),))
        self.assert_sizes(HOUSE, "tied", ((2, 3), (3, 1)))
        self.assert_sizes(HOUSE, "apart", ((2, 4),))
        self.assert_sizes(HOUSE, "cover", ((3, 4),))
        self.assert_sizes(STAR, "tied", ((2, 3),))
        self.assert_sizes(STAR, "apart", ((1, 1), (3, 1)))
        self.assert_sizes(STAR, "cover", ((1, 1), (3, 1)))
        self.assert_sizes(without_ties(FOURTEEN), "apart", ((14, 1),))
        self.assert_sizes(without_ties(FOURTEEN), "tied", ((1, 14),))
        self.assert_sizes(without_ties(FOURTEEN), "cover", ((0, 1),))
        self.assert_sizes(in_groups(FOURTEEN, 3), "tied", ((2, 1), (3, 4)))

    def test_each_web(self):
        for web in ALL_WEBS:
            for kind in KINDS:
                sizes = [len(row) for row in slowly_all(web, kind)]
                told = tuple((many, sizes.count(many)) for many in sorted(set(sizes)))
                self.assert_sizes(web, kind, told)
                self.assertEqual(sum(how_many for many, how_many in told), count_rows(web, kind))


class BiggestTest(unittest.TestCase):
    def assert_biggest(self, web, kind, told):
        ahead = repr(web)
        rows = biggest(web, kind)
        self.assertIs(type(rows), list)
        self.assertEqual(rows, told, (web, kind))
        for row in rows:
            self.assertIs(type(row), tuple)
        other = biggest(web, kind)
        rows.clear()
        self.assertEqual(other, told)
        self.assertEqual(biggest(web, kind), told)
        self.assertEqual(repr(web), ahead)

    def test_rows_written_out(self):
        for kind in KINDS:
            self.assert_biggest(NONE, kind, [()])
        self.assert_biggest(ONE, "tied", [("a",)])
        self.assert_biggest(ONE, "apart", [("a",)])
        self.assert_biggest(ONE, "cover", [()])
        self.assert_biggest(HOUSE, "tied", [("a", "b", "c")])
        self.assert_biggest(HOUSE, "apart", [("a", "d"), ("a", "e"), ("b", "e"), ("c", "d")])
        self.assert_biggest(STAR, "apart", [("x", "y", "z")])
        self.assert_biggest(STAR, "cover", [("hub",)])
        self.assert_biggest(without_ties(FOURTEEN), "cover", [()])
        self.assert_biggest(without_ties(FOURTEEN), "tied", [(name,) for name in FOURTEEN])
        self.assert_biggest(all_tied(FOURTEEN), "tied", [FOURTEEN])

    def test_each_web(self):
        for web in ALL_WEBS:
            for kind in KINDS:
                rows = slowly_all(web, kind)
                sizes = sorted(len(row) for row in rows)
                wanted = sizes[0] if kind == "cover" else sizes[-1]
                self.assert_biggest(web, kind, [row for row in rows if len(row) == wanted])

    def test_fewest_of_a_cover_and_most_apart_are_all_names(self):
        for web in ALL_WEBS:
            for cover in biggest(web, "cover"):
                for apart in biggest(web, "apart"):
                    self.assertEqual(len(cover) + len(apart), len(web[0]))


if __name__ == "__main__":
    unittest.main()
