import unittest
from itertools import combinations

from eachgreatest.errors import NoAsk, NoName, NoRow, NoWeb, SetError
from eachgreatest.kept import KeptSets
from eachgreatest.orders import all_rows
from eachgreatest.webs import read_web, web_shown
from tests.plain import KINDS, NONE, ONE, PATH, slowly_all

EIGHT = ("b", "ba", "bab", "c", "ca", "cab", "zz", "abcdefgh")
METHODS = ("put_name", "take_name", "tie_names", "untie_names", "web_now", "rows_now")
# Strange names that are not there, and those that stand at the ends of the order.
OTHERS = ("q", "a", "zzz")


def web_behind(web, deed, names):
    """The web behind a deed as [16] tells it, or the word that NoName keeps."""
    places, ties = set(web[0]), set(web[1])
    if deed == "put_name":
        if names[0] in places:
            return names[0]
        places.add(names[0])
    else:
        for name in names:
            if name not in places:
                return name
        if len(names) == 2 and names[0] == names[1]:
            return names[0]
    if deed == "take_name":
        places.remove(names[0])
        ties = {tie for tie in ties if names[0] not in tie}
    if deed == "tie_names":
        ties.add(tuple(sorted(names)))
    if deed == "untie_names":
        ties.discard(tuple(sorted(names)))
    return tuple(sorted(places)), tuple(sorted(ties))


def some_deeds(names, many, seed):
    """Deeds one behind another, some of them refused, the same at each run."""
    chance = seed
    for at in range(many):
        chance = (chance * 1103515245 + 12345) % 2 ** 31
        one = names[chance // 7 % len(names)]
        other = names[chance // 1009 % len(names)]
        pick = chance // 65537 % 10
        if pick < 3:
            yield "put_name", (one,)
        elif pick < 4:
            yield "take_name", (one,)
        elif pick < 8:
            yield "tie_names", (one, other)
        else:
            yield "untie_names", (one, other)


def do(kept, deed, names):
    return getattr(kept, deed)(*names)


class KeptTest(unittest.TestCase):
    def assert_now(self, kept, kind, web):
        for again in range(2):
            self.assertEqual(kept.web_now(), web)
            self.assertEqual([type(part) for part in (kept.web_now(), *kept.web_now())], [tuple] * 3)
            self.assertIs(type(kept.rows_now()), list)
            self.assertEqual(kept.rows_now(), list(slowly_all(web, kind)))
        self.assertEqual(kept.web_now(), read_web(web_shown(web)))
        self.assertEqual(kept.rows_now(), all_rows(read_web(web_shown(web)), kind))

    def assert_no_name(self, kept, kind, deed, names, word):
        web = kept.web_now()
        for again in range(2):
            with self.assertRaises(NoName, msg=(deed, names)) as caught:
                do(kept, deed, names)
            self.assertEqual(caught.exception.word, word, (deed, names))
            self.assertIsInstance(caught.exception, SetError)
            self.assertIsInstance(caught.exception, ValueError)
            self.assertNotIsInstance(caught.exception, (NoRow, NoAsk, NoWeb))
            self.assert_now(kept, kind, web)

    def assert_deed(self, kept, kind, deed, names):
        """Do a deed, and hold what comes of it against the document's words."""
        ahead = kept.web_now()
        behind = web_behind(ahead, deed, names)
        if isinstance(behind, str):
            self.assert_no_name(kept, kind, deed, names, behind)
            return
        rows_ahead, rows_behind = slowly_all(ahead, kind), slowly_all(behind, kind)
        told = do(kept, deed, names)
        self.assertIs(type(told), tuple)
        self.assertEqual([type(part) for part in told], [list, list])
        came, went = told
        self.assertEqual(came, [row for row in rows_behind if row not in rows_ahead], (ahead, deed))
        self.assertEqual(went, [row for row in rows_ahead if row not in rows_behind], (ahead, deed))
        self.assertTrue(all(type(row) is tuple for row in came + went))
        self.assert_now(kept, kind, behind)

    def begun(self, kind, web):
        """A kept web that was brought to a web."""
        kept = KeptSets(kind)
        for name in reversed(web[0]):
            kept.put_name(name)
        for one, other in web[1]:
            kept.tie_names(other, one)
        return kept

    def test_methods_stand_in_the_class(self):
        for name in METHODS:
            self.assertIn(name, vars(KeptSets))

    def test_the_begin(self):
        for kind in KINDS:
            self.assert_now(KeptSets(kind), kind, NONE)
            self.assertEqual(KeptSets(kind).rows_now(), [()])

    def test_deeds_written_out_tied(self):
        kept = KeptSets("tied")
        self.assertEqual(kept.put_name("b"), ([("b",)], [()]))
        self.assertEqual(kept.put_name("a"), ([("a",)], []))
        self.assertEqual(kept.put_name("c"), ([("c",)], []))
        self.assertEqual(kept.tie_names("b", "a"), ([("a", "b")], [("a",), ("b",)]))
        self.assertEqual(kept.tie_names("b", "c"), ([("b", "c")], [("c",)]))
        self.assertEqual(kept.tie_names("c", "a"), ([("a", "b", "c")], [("a", "b"), ("b", "c")]))
        self.assertEqual(kept.tie_names("a", "c"), ([], []))
        self.assertEqual(kept.web_now(), (("a", "b", "c"), (("a", "b"), ("a", "c"), ("b", "c"))))
        self.assertEqual(kept.untie_names("c", "b"), ([("a", "b"), ("a", "c")], [("a", "b", "c")]))
        self.assertEqual(kept.untie_names("c", "b"), ([], []))
        self.assertEqual(kept.take_name("a"), ([("b",), ("c",)], [("a", "b"), ("a", "c")]))
        self.assertEqual(kept.web_now(), (("b", "c"), ()))
        self.assertEqual(kept.put_name("a"), ([("a",)], []))
        self.assertEqual(kept.rows_now(), [("a",), ("b",), ("c",)])
        self.assertEqual(kept.web_now(), (("a", "b", "c"), ()))

    def test_deeds_written_out_apart(self):
        kept = KeptSets("apart")
        self.assertEqual(kept.put_name("b"), ([("b",)], [()]))
        self.assertEqual(kept.put_name("a"), ([("a", "b")], [("b",)]))
        self.assertEqual(kept.tie_names("a", "b"), ([("a",), ("b",)], [("a", "b")]))
        self.assertEqual(kept.take_name("b"), ([], [("b",)]))
        self.assertEqual(kept.take_name("a"), ([()], [("a",)]))
        self.assertEqual(kept.rows_now(), [()])

    def test_deeds_written_out_cover(self):
        kept = KeptSets("cover")
        self.assertEqual(kept.put_name("b"), ([], []))
        self.assertEqual(kept.put_name("a"), ([], []))
        self.assertEqual(kept.tie_names("a", "b"), ([("a",), ("b",)], [()]))
        self.assertEqual(kept.take_name("b"), ([()], [("a",), ("b",)]))
        self.assertEqual(kept.web_now(), ONE)

    def test_a_tie_that_is_there_and_untying_none(self):
        for kind in KINDS:
            kept = self.begun(kind, PATH)
            self.assert_now(kept, kind, PATH)
            for one, other in combinations("abcd", 2):
                deed = "tie_names" if (one, other) in PATH[1] else "untie_names"
                self.assertEqual(do(kept, deed, (one, other)), ([], []))
                self.assertEqual(do(kept, deed, (other, one)), ([], []))
                self.assert_now(kept, kind, PATH)

    def test_a_name_put_in_again_has_no_ties(self):
        for kind in KINDS:
            kept = self.begun(kind, PATH)
            kept.take_name("b")
            self.assert_now(kept, kind, (("a", "c", "d"), (("c", "d"),)))
            kept.put_name("b")
            self.assert_now(kept, kind, (("a", "b", "c", "d"), (("c", "d"),)))

    def test_each_deed_of_each_kind_in_small_webs(self):
        names = ("a", "b", "c")
        deeds = [(deed, (name,)) for deed in ("put_name", "take_name") for name in (*names, "q")]
        deeds += [(deed, (one, other)) for deed in ("tie_names", "untie_names")
                  for one in (*names, "q") for other in (*names, "q", "x")]
        for many in range(4):
            for ties in combinations(combinations(names, 2), many):
                for kind in KINDS:
                    for deed in deeds:
                        self.assert_deed(self.begun(kind, (names, ties)), kind, *deed)

    def test_deeds_one_behind_another(self):
        for kind in KINDS:
            for seed in range(6):
                kept = KeptSets(kind)
                for deed, names in some_deeds(EIGHT, 150, seed):
                    self.assert_deed(kept, kind, deed, names)

    def test_up_to_eight_names_all_tied_and_back(self):
        for kind in KINDS:
            kept = KeptSets(kind)
            for at, name in enumerate(EIGHT):
                self.assert_deed(kept, kind, "put_name", (name,))
                for other in EIGHT[:at]:
                    self.assert_deed(kept, kind, "tie_names", (name, other))
            for one, other in list(combinations(EIGHT, 2))[::3]:
                self.assert_deed(kept, kind, "untie_names", (one, other))
            for name in EIGHT:
                self.assert_deed(kept, kind, "take_name", (name,))
            self.assert_now(kept, kind, NONE)

    def test_refusals(self):
        for kind in KINDS:
            kept = self.begun(kind, PATH)
            for name in PATH[0]:
                self.assert_no_name(kept, kind, "put_name", (name,), name)
            for name in OTHERS[0], OTHERS[2]:
                self.assert_no_name(kept, kind, "take_name", (name,), name)
            for deed in ("tie_names", "untie_names"):
                self.assert_no_name(kept, kind, deed, ("q", "a"), "q")
                self.assert_no_name(kept, kind, deed, ("a", "q"), "q")
                self.assert_no_name(kept, kind, deed, ("q", "x"), "q")
                self.assert_no_name(kept, kind, deed, ("x", "q"), "x")
                self.assert_no_name(kept, kind, deed, ("q", "q"), "q")
                self.assert_no_name(kept, kind, deed, ("a", "a"), "a")
                self.assert_no_name(kept, kind, deed, ("d", "d"), "d")

    def test_refusals_without_names(self):
        for kind in KINDS:
            for name in OTHERS:
                kept = KeptSets(kind)
                self.assert_no_name(kept, kind, "take_name", (name,), name)
                for deed in ("tie_names", "untie_names"):
                    self.assert_no_name(kept, kind, deed, (name, "b"), name)
                    self.assert_no_name(kept, kind, deed, (name, name), name)

    def test_a_name_that_was_taken_out_is_not_there(self):
        for kind in KINDS:
            kept = self.begun(kind, PATH)
            kept.take_name("b")
            self.assert_no_name(kept, kind, "take_name", ("b",), "b")
            self.assert_no_name(kept, kind, "tie_names", ("a", "b"), "b")
            self.assert_no_name(kept, kind, "untie_names", ("b", "a"), "b")

    def test_two_kept_webs_do_not_disturb_each_other(self):
        for first_kind in KINDS:
            for second_kind in KINDS:
                first, second = KeptSets(first_kind), KeptSets(second_kind)
                pairs = zip(some_deeds(EIGHT, 40, 11), some_deeds(EIGHT, 40, 12))
                for one, other in pairs:
                    web = second.web_now()
                    self.assert_deed(first, first_kind, *one)
                    self.assert_now(second, second_kind, web)
                    web = first.web_now()
                    self.assert_deed(second, second_kind, *other)
                    self.assert_now(first, first_kind, web)
                self.assert_now(KeptSets(first_kind), first_kind, NONE)

    def test_told_lists_are_the_askers_own(self):
        for kind in KINDS:
            kept, plain = KeptSets(kind), KeptSets(kind)
            told = []
            for deed, names in some_deeds(EIGHT, 60, 13):
                try:
                    came, went = do(kept, deed, names)
                except NoName:
                    continue
                self.assertEqual((came, went), do(plain, deed, names))
                rows = kept.rows_now()
                for part in (came, went, rows):
                    told.append((part, list(part)))
                changed = kept.rows_now()
                changed.clear()
                changed.append("strange")
                self.assert_now(kept, kind, plain.web_now())
            for part, before in told:
                self.assertEqual(part, before)

    def test_emptied_lists_change_no_later_deed(self):
        for kind in KINDS:
            kept = KeptSets(kind)
            for deed, names in some_deeds(EIGHT, 60, 14):
                if isinstance(web_behind(kept.web_now(), deed, names), str):
                    continue
                ahead, web = kept.web_now(), web_behind(kept.web_now(), deed, names)
                came, went = do(kept, deed, names)
                self.assertEqual(set(came), {*slowly_all(web, kind)} - {*slowly_all(ahead, kind)})
                for part in (came, went, kept.rows_now()):
                    part.clear()
                    part.append(("strange",))
                self.assert_now(kept, kind, web)


if __name__ == "__main__":
    unittest.main()
