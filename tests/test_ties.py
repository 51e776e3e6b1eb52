import unittest
from itertools import combinations, permutations

from eachgreatest.orders import all_rows
from eachgreatest.ties import all_ties_apart, ties_apart, ties_greatest, web_of_ties
from tests.plain import (BEGINNINGS, FEW, FOURTEEN, HOUSE, LONG_FOURTEEN, NONE, ONE, PATH, SEVEN,
                         STAR, all_small_webs, all_tied, in_a_ring, in_a_row, in_crossed_parts,
                         in_groups, rows_of_ties, slowly_all_ties_apart,
                         slowly_ties_apart, some_tied, without_ties)

AB, AC, BC, BD, CD, CE, DE = [tuple(pair) for pair in "ab ac bc bd cd ce de".split()]


def with_few_ties(web, many):
    """The web with so many of its ties alone, from here and there."""
    step = max(1, len(web[1]) // many) if many else 1
    return (web[0], tuple(web[1][::step][:many]) if many else ())


SMALL = [*FEW, *all_small_webs()]
# Webs of fourteen names and of few with none to twelve ties.
GREAT = [with_few_ties(web, many)
         for web in (all_tied(FOURTEEN), some_tied(LONG_FOURTEEN, 5), in_a_row(FOURTEEN),
                     in_groups(FOURTEEN, 3), all_tied(SEVEN))
         for many in range(13)]
TWELVE = [with_few_ties(all_tied(FOURTEEN), 12), (FOURTEEN, all_tied(FOURTEEN)[1][:12]),
          in_crossed_parts(FOURTEEN, 2), (tuple("abcdefgh"), tuple(
              pair for pair in combinations("abcdefgh", 2) if pair[0] < "d" < pair[1])),
          (FOURTEEN, in_a_row(FOURTEEN)[1][:12]), in_a_ring(FOURTEEN[:12])]
TIE_WEBS = [web for web in [*SMALL, *GREAT, *TWELVE] if len(web[1]) <= 12]


class TiesApartTest(unittest.TestCase):
    def assert_told(self, web, ties, apart, greatest):
        ahead = repr((web, ties))
        for again in range(2):
            self.assertIs(ties_apart(web, ties), apart, (web, ties))
            self.assertIs(ties_greatest(web, ties), greatest, (web, ties))
        self.assertEqual(repr((web, ties)), ahead)

    def test_rows_written_out(self):
        self.assert_told(HOUSE, (), True, False)
        self.assert_told(HOUSE, (AB,), True, False)
        self.assert_told(HOUSE, (AB, CE), True, True)
        self.assert_told(HOUSE, (AB, DE), True, True)
        self.assert_told(HOUSE, (BC, DE), True, True)
        self.assert_told(HOUSE, (BC,), True, False)
        self.assert_told(HOUSE, (AB, AC), False, False)
        self.assert_told(HOUSE, (AB, BD), False, False)
        self.assert_told(HOUSE, (AB, BC, CE), False, False)
        self.assert_told(PATH, (BC,), True, True)
        self.assert_told(PATH, (AB,), True, False)
        self.assert_told(PATH, (AB, CD), True, True)
        self.assert_told(PATH, (AB, BC), False, False)

    def test_none(self):
        for web in (NONE, ONE, without_ties(FOURTEEN)):
            self.assert_told(web, (), True, True)
        for web in (PATH, STAR, HOUSE, all_tied(FOURTEEN)):
            self.assert_told(web, (), True, False)

    def test_not_in_order(self):
        self.assert_told(HOUSE, (CE, AB), False, False)
        self.assert_told(PATH, (CD, AB), False, False)
        for row in slowly_all_ties_apart(in_a_row(FOURTEEN[:9])):
            for other in permutations(row):
                self.assert_told(in_a_row(FOURTEEN[:9]), other, other == row, other == row)

    def test_a_tie_twice(self):
        self.assert_told(HOUSE, (AB, AB), False, False)
        self.assert_told(HOUSE, (AB, AB, CE), False, False)
        self.assert_told(HOUSE, (AB, CE, CE), False, False)
        self.assert_told(HOUSE, (AB, CE, AB), False, False)
        self.assert_told(PATH, (BC, BC), False, False)

    def test_a_pair_that_is_not_tied(self):
        self.assert_told(PATH, (AC,), False, False)
        self.assert_told(PATH, (AC, BD), False, False)
        self.assert_told(HOUSE, (AC, ("b", "e")), False, False)
        self.assert_told(HOUSE, (CD,), False, False)
        self.assert_told(without_ties(FOURTEEN), (AB,), False, False)
        self.assert_told(PATH, (("a", "a"),), False, False)
        self.assert_told(PATH, (("a", "a"), BC), False, False)

    def test_a_tie_turned_about(self):
        self.assert_told(PATH, (("b", "a"),), False, False)
        self.assert_told(PATH, (("b", "a"), CD), False, False)
        self.assert_told(PATH, (AB, ("d", "c")), False, False)
        self.assert_told(PATH, (("c", "b"),), False, False)
        self.assert_told(PATH, (AB, ("b", "a")), False, False)

    def test_strange_names(self):
        for strange in (("q", "x"), ("a", "x"), ("tie", "untie"), ("aa", "b"), ("", "a")):
            self.assert_told(PATH, (strange,), False, False)
            self.assert_told(PATH, tuple(sorted([AB, CD, strange])), False, False)
            self.assert_told(PATH, tuple(sorted([BC, strange])), False, False)
            self.assert_told(NONE, (strange,), False, False)

    def test_each_row_of_ties(self):
        for web in TIE_WEBS:
            if len(web[1]) <= 8:
                greatest = slowly_all_ties_apart(web)
                for row in rows_of_ties(web):
                    self.assert_told(web, row, slowly_ties_apart(web, row), row in greatest)

    def test_each_greatest_row_less_and_more_a_tie(self):
        for web in TIE_WEBS:
            greatest = slowly_all_ties_apart(web)
            for row in greatest:
                self.assert_told(web, row, True, True)
                for tie in web[1]:
                    other = tuple(sorted({*row} ^ {tie}))
                    self.assert_told(web, other, tie in row, False)

    def test_each_row_of_pairs(self):
        pairs = [(one, other) for one in "abc" for other in "abcx"]
        for web in (all_tied(("a", "b", "c")), in_a_row(("a", "b", "c")), without_ties(("a", "b"))):
            for many in range(3):
                for ties in permutations(pairs, many):
                    self.assert_told(web, ties, slowly_ties_apart(web, ties),
                                     ties in slowly_all_ties_apart(web))


class AllTiesApartTest(unittest.TestCase):
    def assert_all(self, web, told):
        ahead = repr(web)
        rows = all_ties_apart(web)
        self.assertIs(type(rows), list)
        self.assertEqual(rows, told, web)
        for row in rows:
            self.assertIs(type(row), tuple)
            self.assertTrue(all(type(tie) is tuple for tie in row))
        other = all_ties_apart(web)
        rows.clear()
        self.assertEqual(other, told)
        self.assertEqual(all_ties_apart(web), told)
        self.assertEqual(repr(web), ahead)

    def test_rows_written_out(self):
        self.assert_all(NONE, [()])
        self.assert_all(ONE, [()])
        self.assert_all(without_ties(FOURTEEN), [()])
        self.assert_all(PATH, [(AB, CD), (BC,)])
        self.assert_all(HOUSE, [(AB, CE), (AB, DE), (AC, BD), (AC, DE), (BC, DE), (BD, CE)])
        self.assert_all(STAR, [(tie,) for tie in STAR[1]])
        self.assert_all(BEGINNINGS, [(("a", "aa"),), (("a", "b"), ("aa", "aaa"))])

    def test_each_web(self):
        self.assertEqual({len(web[1]) for web in TIE_WEBS}, set(range(13)))
        for web in TIE_WEBS:
            self.assert_all(web, list(slowly_all_ties_apart(web)))

    def test_the_greatest_apart_rows_of_the_web_of_the_ties(self):
        for web in TIE_WEBS:
            ties = dict(zip("abcdefghijkl", web[1]))
            rows = [tuple(ties[name] for name in row) for row in all_rows(web_of_ties(web), "apart")]
            self.assert_all(web, rows)

    def test_more_than_twelve_ties(self):
        # Nothing is promised of these but that no error is raised; still they are what they are.
        for web in (in_a_row(FOURTEEN), in_a_ring(FOURTEEN)):
            self.assert_all(web, list(slowly_all_ties_apart(web)))
        for web, many in ((in_groups(FOURTEEN[:10], 5), 15 * 15), (all_tied(FOURTEEN[:8]), 7 * 5 * 3)):
            rows = all_ties_apart(web)
            self.assertEqual(len(rows), many)
            self.assertEqual(rows, sorted(set(rows)))
            self.assertTrue(all(ties_greatest(web, row) for row in rows))


class WebOfTiesTest(unittest.TestCase):
    def assert_web(self, web, told):
        ahead = repr(web)
        for again in range(2):
            other = web_of_ties(web)
            self.assertEqual(other, told, web)
            self.assertEqual([type(part) for part in (other, *other, *other[1])],
                             [tuple] * (3 + len(other[1])))
        self.assertEqual(repr(web), ahead)

    def test_webs_written_out(self):
        self.assert_web(NONE, NONE)
        self.assert_web(ONE, NONE)
        self.assert_web(without_ties(FOURTEEN), NONE)
        self.assert_web((("x", "y"), (("x", "y"),)), ONE)
        self.assert_web(PATH, (("a", "b", "c"), (AB, BC)))
        self.assert_web(STAR, all_tied(("a", "b", "c")))
        self.assert_web(HOUSE, (tuple("abcdef"), tuple(
            tuple(pair) for pair in "ab ac ad bc be cd ce df ef".split())))
        self.assert_web(in_groups(FOURTEEN, 2), without_ties(tuple("abcdefg")))

    def test_twelve_ties(self):
        names = tuple("abcdefghijkl")
        self.assert_web((FOURTEEN, in_a_row(FOURTEEN)[1][:12]), in_a_row(names))
        self.assert_web((FOURTEEN, all_tied(FOURTEEN)[1][:12]), all_tied(names))

    def test_each_web(self):
        for web in TIE_WEBS:
            names = tuple("abcdefghijkl"[:len(web[1])])
            ties = dict(zip(names, web[1]))
            self.assert_web(web, (names, tuple(
                (one, other) for one, other in combinations(names, 2)
                if set(ties[one]) & set(ties[other]))))

    def test_more_ties_keep_their_order(self):
        names, ties = web_of_ties(all_tied(FOURTEEN))
        self.assertEqual(names[:28], (*"abcdefghijklmnopqrstuvwxyz", "za", "zb"))
        self.assertEqual(list(names), sorted(set(names)))
        self.assertEqual(len(names), 91)
        self.assertTrue(all(len(name) <= 8 for name in names))


if __name__ == "__main__":
    unittest.main()
