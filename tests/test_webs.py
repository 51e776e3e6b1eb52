import unittest
from itertools import combinations, permutations

from eachgreatest.errors import NoAsk, NoName, NoRow, NoWeb, SetError
from eachgreatest.webs import read_web, turned_over, web_of, web_shown, web_without
from tests.plain import (BEGINNINGS, FEW, FOURTEEN, HOUSE, LONG_FOURTEEN, MANY, NONE, ONE, PATH,
                         STAR, WORDS, all_small_webs, all_tied, some_tied, without_ties)


def is_web(thing):
    """Whether a thing is a web as [4] tells it, to the kinds of its values."""
    if type(thing) is not tuple or len(thing) != 2:
        return False
    names, ties = thing
    if type(names) is not tuple or list(names) != sorted(set(names)):
        return False
    return type(ties) is tuple and list(ties) == [
        pair for pair in combinations(names, 2) if pair in ties]


class WebTest(unittest.TestCase):
    def assert_web(self, told, web):
        self.assertTrue(is_web(told), told)
        self.assertEqual(told, web)

    def assert_no_web(self, text, row):
        for again in range(2):
            with self.assertRaises(NoWeb) as caught:
                read_web(text)
            self.assertEqual(caught.exception.row, row, text)
            self.assertIs(type(caught.exception.row), int)
        self.assertIsInstance(caught.exception, SetError)
        self.assertNotIsInstance(caught.exception, (NoRow, NoAsk, NoName))

    def assert_no_name(self, ask, web, names, word):
        for again in range(2):
            with self.assertRaises(NoName) as caught:
                ask(web, names)
            self.assertEqual(caught.exception.word, word)
        self.assertIsInstance(caught.exception, SetError)
        self.assertNotIsInstance(caught.exception, (NoRow, NoAsk, NoWeb))


class ReadTest(WebTest):
    def test_no_names(self):
        self.assert_web(read_web(""), NONE)

    def test_one_name(self):
        self.assert_web(read_web("a"), ONE)
        self.assert_web(read_web("abcdefgh"), (("abcdefgh",), ()))

    def test_several_names(self):
        self.assert_web(read_web("a b c"), without_ties(("a", "b", "c")))
        self.assert_web(read_web("a b c\na b\na c\nb c"), all_tied(("a", "b", "c")))
        self.assert_web(read_web("a b c d\na b\nb c\nc d"), PATH)

    def test_first_and_last_letters(self):
        self.assert_web(read_web("az za\nza az"), (("az", "za"), (("az", "za"),)))

    def test_names_that_hold_a_desk_word(self):
        self.assert_web(read_web("ties webs al covers"),
                        without_ties(("al", "covers", "ties", "webs")))

    def test_fourteen_names(self):
        for names in (FOURTEEN, LONG_FOURTEEN):
            for web in (without_ties(names), all_tied(names), some_tied(names, 5)):
                rows = [" ".join(reversed(web[0]))]
                rows += [f"{other} {one}" for one, other in reversed(web[1])]
                self.assert_web(read_web("\n".join(rows)), web)

    def test_beginnings_of_one_another(self):
        self.assert_web(read_web("b ab aaa a aa\naaa aa\nb a\naa a"), BEGINNINGS)

    def test_any_order(self):
        ties = ("a b", "c b", "c d")
        for names in permutations("abcd"):
            for order in permutations(ties):
                text = "\n".join([" ".join(names), *order])
                self.assert_web(read_web(text), PATH)

    def test_the_same_again(self):
        text = "c b a\nc a\nb a"
        self.assertEqual(read_web(text), read_web(text))


class ReadRefusedTest(WebTest):
    def test_names_that_are_none(self):
        for word in ("abcdefghi", "A", "aB", "a1", "7", "a-b", "a_b", "a.b", "`", "{", "~", "!"):
            self.assert_no_web(word, 0)
            self.assert_no_web(f"a {word} b", 0)
            self.assert_no_web(f"b a {word}\na b", 0)

    def test_desk_words(self):
        self.assertEqual(len(WORDS), 16)
        for word in WORDS:
            self.assert_no_web(word, 0)
            self.assert_no_web(f"a {word}", 0)

    def test_blanks_out_of_place(self):
        for row in (" ", "  ", "a  b", " a b", "a b "):
            self.assert_no_web(row, 0)

    def test_a_name_twice(self):
        self.assert_no_web("a a", 0)
        self.assert_no_web("a b c a", 0)

    def test_ties_of_names_that_are_not_there(self):
        self.assert_no_web("a b\na c", 1)
        self.assert_no_web("a b\nc a", 1)
        self.assert_no_web("\na b", 1)
        self.assert_no_web("aa b\na b", 1)
        self.assert_no_web("a b\na b\nA b", 2)

    def test_ties_of_one_name(self):
        self.assert_no_web("a b\na a", 1)
        self.assert_no_web("a b\na b\nb b", 2)

    def test_ties_twice(self):
        self.assert_no_web("a b\na b\na b", 2)
        self.assert_no_web("a b\na b\nb a", 2)
        self.assert_no_web("a b c\nb a\nb c\na b", 3)

    def test_rows_of_another_number_of_words(self):
        self.assert_no_web("a b c\na", 1)
        self.assert_no_web("a b c\na b\na b c", 2)

    def test_blanks_out_of_place_in_a_tie(self):
        for row in ("a  b", " a b", "a b ", " ", "a ", " b"):
            self.assert_no_web(f"a b\n{row}", 1)

    def test_empty_rows_behind_the_names(self):
        self.assert_no_web("a b\n\na b", 1)
        self.assert_no_web("\n\n", 1)

    def test_a_line_end_behind_the_last_row(self):
        self.assert_no_web("\n", 1)
        self.assert_no_web("a\n", 1)
        self.assert_no_web("a b\na b\n", 2)

    def test_an_empty_row_ahead_of_the_names(self):
        self.assert_no_web("\na\n", 1)

    def test_the_first_wrong_row_is_told(self):
        self.assert_no_web("a a\na a", 0)
        self.assert_no_web("a B\na c", 0)
        self.assert_no_web("a b c\na b\na d\nb b", 2)
        self.assert_no_web("a b c\nb b\nb b\na d\n", 1)


class ShownTest(WebTest):
    def test_texts(self):
        self.assertEqual(web_shown(NONE), "")
        self.assertEqual(web_shown(ONE), "a")
        self.assertEqual(web_shown(without_ties(("a", "bc"))), "a bc")
        self.assertEqual(web_shown(PATH), "a b c d\na b\nb c\nc d")
        self.assertEqual(web_shown(BEGINNINGS), "a aa aaa ab b\na aa\na b\naa aaa")

    def test_read_again_it_is_the_web(self):
        for web in [*FEW, *MANY, *all_small_webs()]:
            text = web_shown(web)
            self.assertIs(type(text), str)
            self.assertEqual(text, web_shown(web))
            self.assert_web(read_web(text), web)


class TurnedTest(WebTest):
    def test_ordinary(self):
        self.assert_web(turned_over(PATH), (PATH[0], (("a", "c"), ("a", "d"), ("b", "d"))))
        self.assert_web(turned_over(STAR), (STAR[0], (("x", "y"), ("x", "z"), ("y", "z"))))

    def test_none_and_all(self):
        self.assert_web(turned_over(NONE), NONE)
        self.assert_web(turned_over(ONE), ONE)
        for names in (("a", "b"), FOURTEEN):
            self.assert_web(turned_over(without_ties(names)), all_tied(names))
            self.assert_web(turned_over(all_tied(names)), without_ties(names))

    def test_just_the_ties_that_the_web_has_not(self):
        for web in [*FEW, *MANY, *all_small_webs()]:
            over = turned_over(web)
            ties = tuple(pair for pair in combinations(web[0], 2) if pair not in web[1])
            self.assert_web(over, (web[0], ties))
            self.assertEqual(over, turned_over(web))
            self.assert_web(turned_over(over), web)


class PartTest(WebTest):
    def test_without_some(self):
        self.assert_web(web_without(HOUSE, ("e", "a")),
                        (("b", "c", "d"), (("b", "c"), ("b", "d"))))
        self.assert_web(web_without(STAR, ("hub",)), without_ties(("x", "y", "z")))

    def test_by_some_alone(self):
        self.assert_web(web_of(HOUSE, ("e", "c", "a")),
                        (("a", "c", "e"), (("a", "c"), ("c", "e"))))
        self.assert_web(web_of(BEGINNINGS, ("b", "aa", "a")),
                        (("a", "aa", "b"), (("a", "aa"), ("a", "b"))))

    def test_none_and_all(self):
        for web in [*FEW, *MANY]:
            turned = web[0][::-1]
            self.assert_web(web_without(web, ()), web)
            self.assert_web(web_of(web, ()), NONE)
            for names in (web[0], turned):
                self.assert_web(web_without(web, names), NONE)
                self.assert_web(web_of(web, names), web)

    def test_any_names_in_any_order(self):
        for many in range(6):
            for names in permutations(HOUSE[0], many):
                left = tuple(name for name in HOUSE[0] if name not in names)
                kept = tuple(sorted(names))
                self.assert_web(web_of(HOUSE, names), (
                    kept, tuple(tie for tie in HOUSE[1] if set(tie) <= set(kept))))
                self.assert_web(web_without(HOUSE, names), (
                    left, tuple(tie for tie in HOUSE[1] if set(tie) <= set(left))))
                self.assertEqual(web_of(HOUSE, left), web_without(HOUSE, names))


class PartRefusedTest(WebTest):
    def test_first_wrong_name_is_told(self):
        for ask in (web_without, web_of):
            self.assert_no_name(ask, NONE, ("a",), "a")
            self.assert_no_name(ask, PATH, ("x",), "x")
            self.assert_no_name(ask, PATH, ("a", "x", "y"), "x")
            self.assert_no_name(ask, PATH, ("d", "y", "x", "d"), "y")
            self.assert_no_name(ask, PATH, ("tie",), "tie")
            self.assert_no_name(ask, STAR, ("x", "hu"), "hu")

    def test_a_name_a_second_time(self):
        for ask in (web_without, web_of):
            self.assert_no_name(ask, PATH, ("a", "a"), "a")
            self.assert_no_name(ask, PATH, ("b", "a", "c", "a", "b"), "a")
            self.assert_no_name(ask, PATH, ("b", "b", "x"), "b")
            self.assert_no_name(ask, PATH, ("b", "x", "b"), "x")
            self.assert_no_name(ask, PATH, ("a", "b", "c", "d", "c"), "c")


class UnchangedTest(WebTest):
    def test_nothing_handed_in_is_changed(self):
        for web in [*FEW, *MANY]:
            names = web[0][::-2]
            ahead = repr((web, names))
            web_shown(web), turned_over(web), web_without(web, names), web_of(web, names)
            self.assert_no_name(web_of, web, (*names, "none"), "none")
            self.assertEqual(repr((web, names)), ahead)

    def test_what_was_told_stays(self):
        told = (turned_over(HOUSE), web_without(HOUSE, ("b",)), web_of(HOUSE, ("d", "b")))
        ahead = repr(told)
        for web in told:
            turned_over(web), web_without(web, web[0]), web_of(web, web[0])
        self.assertEqual(repr(told), ahead)


if __name__ == "__main__":
    unittest.main()
