import unittest

from eachgreatest.orders import all_rows
from eachgreatest.walks import Walk
from tests.plain import (BIG_SHAPES, ELEVEN, FOURTEEN, HOUSE, MANY, NONE, ONE, PATH, SHAPES,
                         all_small_webs, all_tied, in_groups, slowly_all, slowly_walked,
                         with_the_other_ties, without_ties)

WALK_KINDS = ("tied", "apart")


def numbers_of(walk):
    return walk.fillings(), walk.waiting(), walk.told()


class WalkTest(unittest.TestCase):
    def assert_walk(self, web, kind, askings):
        """Hold a walk against (row, fillings, waiting, told) of each asking."""
        walk = Walk(web, kind)
        self.assertEqual(numbers_of(walk), (0, 1, 0))
        for row, *numbers in askings:
            self.assertEqual(walk.tell(), row, (web, kind))
            self.assertEqual(numbers_of(walk), tuple(numbers), (web, kind, row))
        ending = numbers_of(walk)
        self.assertEqual(ending[1], 0)
        for again in range(3):
            self.assertIsNone(walk.tell())
            self.assertEqual(numbers_of(walk), ending)

    def test_methods_stand_in_the_class(self):
        for name in ("tell", "fillings", "waiting", "told"):
            self.assertIn(name, vars(Walk))

    def test_walks_written_out(self):
        self.assert_walk(HOUSE, "apart", [(("a", "d"), 3, 3, 1), (("a", "e"), 6, 2, 2),
                                          (("b", "e"), 8, 1, 3), (("c", "d"), 10, 0, 4)])
        # From (a, c) b begins (b,) and d begins (a, d); from (a, d) b begins (b,) again, and
        # c begins (a, c); from (b, d) a begins (a,), but c begins (c,), to which a can be put.
        self.assert_walk(PATH, "apart", [(("a", "c"), 2, 2, 1), (("a", "d"), 4, 1, 2),
                                         (("b", "d"), 5, 0, 3)])

    def test_no_name_and_one(self):
        for kind in WALK_KINDS:
            self.assert_walk(NONE, kind, [((), 0, 0, 1)])
            self.assert_walk(ONE, kind, [(("a",), 0, 0, 1)])

    def test_no_ties_and_all(self):
        single = [(("a",), 10, 10, 1)]
        for at in range(1, 11):
            # Each name of the ten others is filled at once: it begins a row by itself.
            single.append(((ELEVEN[at],), 10 * (at + 1), 10 - at, at + 1))
        self.assert_walk(all_tied(ELEVEN), "tied", [(ELEVEN, 0, 0, 1)])
        self.assert_walk(without_ties(ELEVEN), "apart", [(ELEVEN, 0, 0, 1)])
        self.assert_walk(all_tied(ELEVEN), "apart", single)
        self.assert_walk(without_ties(ELEVEN), "tied", single)

    def test_each_asking_as_the_document_says(self):
        for web in [*SHAPES, *all_small_webs()]:
            for kind in WALK_KINDS:
                self.assert_walk(web, kind, slowly_walked(web, kind))

    def test_just_the_greatest_rows_in_order(self):
        for web in [*SHAPES, *BIG_SHAPES, *MANY]:
            for kind in WALK_KINDS:
                walk = Walk(web, kind)
                rows = slowly_all(web, kind)
                for row in rows:
                    told = walk.tell()
                    self.assertIs(type(told), tuple)
                    self.assertEqual(told, row, (web, kind))
                for again in range(3):
                    self.assertIsNone(walk.tell())
                self.assertEqual(all_rows(web, kind), list(rows))

    def test_no_more_fillings_than_places(self):
        for web in [*SHAPES, *all_small_webs()]:
            for kind in WALK_KINDS:
                walk = Walk(web, kind)
                ahead = 0
                while walk.tell() is not None:
                    self.assertLessEqual(walk.fillings() - ahead, len(web[0]))
                    ahead = walk.fillings()

    def test_numbers_are_integers(self):
        walk = Walk(HOUSE, "tied")
        for asking in range(6):
            for number in numbers_of(walk):
                self.assertIs(type(number), int)
            walk.tell()

    def test_asking_the_numbers_changes_nothing(self):
        for web in (HOUSE, in_groups(ELEVEN, 3)):
            for kind in WALK_KINDS:
                asked, silent = Walk(web, kind), Walk(web, kind)
                for asking in range(len(slowly_all(web, kind)) + 2):
                    for again in range(3):
                        ahead = numbers_of(asked)
                        self.assertEqual(numbers_of(asked), ahead)
                    self.assertEqual(asked.tell(), silent.tell())
                self.assertEqual(numbers_of(asked), numbers_of(silent))

    def test_two_walks_do_not_disturb_each_other(self):
        web = in_groups(ELEVEN, 3)
        for first_kind in WALK_KINDS:
            for second_kind in WALK_KINDS:
                first, second = Walk(web, first_kind), None
                expected = list(slowly_walked(web, first_kind))
                other = list(slowly_walked(web, second_kind))
                for at in range(max(len(expected), len(other)) + 4):
                    if at == 2:
                        second = Walk(web, second_kind)
                        self.assertEqual(numbers_of(second), (0, 1, 0))
                    self.assert_asking(first, expected, at)
                    if second is not None:
                        self.assert_asking(second, other, at - 2)

    def assert_asking(self, walk, askings, at):
        row = walk.tell()
        if at < len(askings):
            self.assertEqual((row, *numbers_of(walk)), askings[at])
        else:
            self.assertEqual((row, *numbers_of(walk)), (None, *askings[-1][1:]))

    def test_a_walk_begun_again_is_the_same(self):
        web = with_the_other_ties(in_groups(FOURTEEN, 3))
        for kind in WALK_KINDS:
            first, rows = Walk(web, kind), slowly_all(web, kind)
            told = [first.tell() for row in rows]
            again = Walk(web, kind)
            self.assertEqual([again.tell() for row in rows], told)
            self.assertEqual(told, list(rows))

    def test_nothing_handed_in_is_changed(self):
        ahead = repr(HOUSE)
        walk = Walk(HOUSE, "apart")
        while walk.tell() is not None:
            self.assertEqual(repr(HOUSE), ahead)


if __name__ == "__main__":
    unittest.main()
