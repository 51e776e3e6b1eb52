import unittest
from itertools import permutations

from eachgreatest.errors import NoAsk, NoName, NoRow, NoWeb, SetError
from eachgreatest.kinds import filled, is_greatest, is_of
from tests.plain import (BEGINNINGS, FEW, FOURTEEN, HOUSE, KINDS, MANY, NONE, PATH, STAR,
                         all_small_webs, all_tied, rows_of, slowly_filled, slowly_greatest,
                         slowly_of, without_ties)


class KindsTest(unittest.TestCase):
    def assert_of(self, web, kind, row, of, greatest):
        for again in range(2):
            self.assertIs(is_of(web, kind, row), of, (web, kind, row))
            self.assertIs(is_greatest(web, kind, row), greatest, (web, kind, row))

    def assert_filled(self, web, kind, row, told):
        for again in range(2):
            comes = filled(web, kind, row)
            self.assertIs(type(comes), tuple)
            self.assertEqual(comes, told, (web, kind, row))

    def assert_no_row(self, web, kind, row):
        for again in range(2):
            with self.assertRaises(NoRow) as caught:
                filled(web, kind, row)
        self.assertIsInstance(caught.exception, SetError)
        self.assertNotIsInstance(caught.exception, (NoWeb, NoAsk, NoName))


class TiedTest(KindsTest):
    def test_rows(self):
        self.assert_of(HOUSE, "tied", ("a", "b", "c"), True, True)
        self.assert_of(HOUSE, "tied", ("a", "b"), True, False)
        self.assert_of(HOUSE, "tied", ("d", "e"), True, True)
        self.assert_of(HOUSE, "tied", ("a", "b", "d"), False, False)
        self.assert_of(HOUSE, "tied", ("a", "e"), False, False)
        self.assert_of(HOUSE, "tied", ("e",), True, False)

    def test_names_that_are_beginnings_of_one_another(self):
        self.assert_of(BEGINNINGS, "tied", ("aa", "aaa"), True, True)
        self.assert_of(BEGINNINGS, "tied", ("a", "aaa"), False, False)
        self.assert_of(BEGINNINGS, "tied", ("ab",), True, True)

    def test_none_and_all(self):
        self.assert_of(HOUSE, "tied", (), True, False)
        self.assert_of(HOUSE, "tied", HOUSE[0], False, False)
        self.assert_of(all_tied(FOURTEEN), "tied", FOURTEEN, True, True)
        self.assert_of(all_tied(FOURTEEN), "tied", FOURTEEN[1:], True, False)
        self.assert_of(without_ties(FOURTEEN), "tied", FOURTEEN, False, False)
        self.assert_of(without_ties(FOURTEEN), "tied", ("n",), True, True)

    def test_filled(self):
        self.assert_filled(HOUSE, "tied", (), ("a", "b", "c"))
        self.assert_filled(HOUSE, "tied", ("d",), ("b", "d"))
        self.assert_filled(HOUSE, "tied", ("e",), ("c", "e"))
        self.assert_filled(HOUSE, "tied", ("d", "e"), ("d", "e"))
        self.assert_filled(STAR, "tied", ("y",), ("hub", "y"))
        self.assert_filled(all_tied(FOURTEEN), "tied", ("g",), FOURTEEN)


class ApartTest(KindsTest):
    def test_rows(self):
        self.assert_of(PATH, "apart", ("a", "c"), True, True)
        self.assert_of(PATH, "apart", ("a", "d"), True, True)
        self.assert_of(PATH, "apart", ("a",), True, False)
        self.assert_of(PATH, "apart", ("a", "b"), False, False)
        self.assert_of(PATH, "apart", ("b", "c", "d"), False, False)
        self.assert_of(STAR, "apart", ("hub",), True, True)
        self.assert_of(STAR, "apart", ("x", "z"), True, False)

    def test_none_and_all(self):
        self.assert_of(PATH, "apart", (), True, False)
        self.assert_of(PATH, "apart", PATH[0], False, False)
        self.assert_of(without_ties(FOURTEEN), "apart", FOURTEEN, True, True)
        self.assert_of(without_ties(FOURTEEN), "apart", FOURTEEN[:-1], True, False)
        self.assert_of(all_tied(FOURTEEN), "apart", ("a",), True, True)

    def test_filled(self):
        self.assert_filled(PATH, "apart", (), ("a", "c"))
        self.assert_filled(PATH, "apart", ("d",), ("a", "d"))
        self.assert_filled(PATH, "apart", ("b", "d"), ("b", "d"))
        self.assert_filled(STAR, "apart", ("z",), ("x", "y", "z"))
        self.assert_filled(STAR, "apart", (), ("hub",))
        self.assert_filled(without_ties(FOURTEEN), "apart", ("n",), FOURTEEN)


class CoverTest(KindsTest):
    def test_rows(self):
        self.assert_of(PATH, "cover", ("b", "c"), True, True)
        self.assert_of(PATH, "cover", ("a", "c"), True, True)
        self.assert_of(PATH, "cover", ("a", "b", "c"), True, False)
        self.assert_of(PATH, "cover", ("a", "d"), False, False)
        self.assert_of(PATH, "cover", ("b",), False, False)
        self.assert_of(STAR, "cover", ("hub",), True, True)
        self.assert_of(STAR, "cover", ("x", "y", "z"), True, True)
        self.assert_of(STAR, "cover", ("hub", "y"), True, False)

    def test_none_and_all(self):
        self.assert_of(PATH, "cover", (), False, False)
        self.assert_of(PATH, "cover", PATH[0], True, False)
        self.assert_of(without_ties(FOURTEEN), "cover", (), True, True)
        self.assert_of(without_ties(FOURTEEN), "cover", ("a",), True, False)
        self.assert_of(all_tied(FOURTEEN), "cover", FOURTEEN, True, False)
        self.assert_of(all_tied(FOURTEEN), "cover", FOURTEEN[1:], True, True)
        self.assert_of(all_tied(FOURTEEN), "cover", FOURTEEN[2:], False, False)

    def test_filled_from_the_last_name(self):
        self.assert_filled(PATH, "cover", PATH[0], ("a", "c"))
        self.assert_filled(PATH, "cover", ("b", "c", "d"), ("b", "c"))
        self.assert_filled(PATH, "cover", ("b", "d"), ("b", "d"))
        self.assert_filled(STAR, "cover", STAR[0], ("hub",))
        self.assert_filled(all_tied(FOURTEEN), "cover", FOURTEEN, FOURTEEN[:-1])
        self.assert_filled(without_ties(FOURTEEN), "cover", FOURTEEN, ())
        self.assert_filled(without_ties(FOURTEEN), "cover", (), ())


class AnyKindTest(KindsTest):
    def test_a_web_without_names(self):
        for kind in KINDS:
            self.assert_of(NONE, kind, (), True, True)
            self.assert_filled(NONE, kind, (), ())

    def test_each_row_as_the_document_says(self):
        for web in [*FEW, *all_small_webs()]:
            for kind in KINDS:
                for row in rows_of(web):
                    self.assert_of(web, kind, row, slowly_of(web, kind, row),
                                   slowly_greatest(web, kind, row))

    def test_each_row_filled_as_the_document_says(self):
        for web in [*FEW, *all_small_webs()]:
            for kind in KINDS:
                for row in rows_of(web):
                    if slowly_of(web, kind, row):
                        self.assert_filled(web, kind, row, slowly_filled(web, kind, row))
                    else:
                        self.assert_no_row(web, kind, row)

    def test_filled_is_greatest_and_stays(self):
        for web in [*FEW, *MANY]:
            for kind in KINDS:
                told = filled(web, kind, web[0] if kind == "cover" else ())
                self.assert_of(web, kind, told, True, True)
                self.assert_filled(web, kind, told, told)
                self.assertEqual(told, slowly_filled(web, kind, web[0] if kind == "cover" else ()))

    def test_nothing_handed_in_is_changed(self):
        for kind, row in (("tied", ("b",)), ("apart", ("d",)), ("cover", HOUSE[0])):
            ahead = repr((HOUSE, row))
            is_of(HOUSE, kind, row), is_greatest(HOUSE, kind, row)
            self.assertNotEqual(filled(HOUSE, kind, row), row)
            self.assertEqual(repr((HOUSE, row)), ahead)

    def test_what_is_no_row_is_of_no_kind(self):
        for kind in KINDS:
            for row in (("x",), ("a", "x"), ("a", "a"), ("c", "b"), ("c", "a"), ("b", "c", "c"),
                        ("b", "c", "x"), ("tie",)):
                self.assert_of(PATH, kind, row, False, False)
                self.assert_no_row(PATH, kind, row)
            for row in permutations(("a", "b", "c")):
                if row != ("a", "b", "c"):
                    self.assert_no_row(all_tied(("a", "b", "c")), kind, row)
                    self.assert_no_row(without_ties(("a", "b", "c")), kind, row)


if __name__ == "__main__":
    unittest.main()
