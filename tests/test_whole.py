import re
import unittest

from eachgreatest.errors import NoAsk, NoName, NoRow, NoWeb, SetError
from eachgreatest.whole import Desk
from tests.plain import (BEGINNINGS, HOUSE, KINDS, NONE, ONE, PATH, STAR, WORDS, all_small_webs,
                         all_tied, in_a_ring, in_groups, rows_of, slowly_all, slowly_filled,
                         slowly_of, without_ties)

EIGHT = tuple("abcdefgh")
DESK_WEBS = [NONE, ONE, PATH, HOUSE, STAR, BEGINNINGS, without_ties(EIGHT), all_tied(EIGHT),
             in_a_ring(EIGHT), in_groups(EIGHT, 3), in_groups(EIGHT, 2)]
# Texts that are no names: too long, with other signs, or words that the desk reads.
NO_NAMES = ["abcdefghi", "A", "aB", "a1", "1", "a_b", "a-b", "~", "a\n", "\na", "", "a.", "Tie", *WORDS]
KIND_WORDS = ("first", "next", "all", "count", "sizes", "biggest", "fill")


def lines_of(name, web):
    """Lines that bring a desk to a web, names and ties from behind."""
    lines = [f"web {name}"]
    if web[0]:
        lines.append(" ".join(["put", name, *reversed(web[0])]))
    return lines + [f"tie {name} {other} {one}" for one, other in reversed(web[1])]


def desk_with(webs):
    desk = Desk()
    for name, web in webs.items():
        for line in lines_of(name, web):
            desk.ask(line)
    return desk


def rows_shown(web):
    return [" ".join(web[0]), *(" ".join(tie) for tie in web[1])]


class SlowDesk:
    """The desk by the document's words, said slowly."""

    def __init__(self):
        self.webs = {}

    def ask(self, line):
        """The rows told, or the refusal: a pair of its class and its word."""
        if not re.fullmatch(r"[a-z]+( [a-z]+)*", line):
            return (NoAsk, None)
        word, *rest = line.split(" ")
        forms = {"web": "n", "put": "np+", "take": "np", "tie": "npp", "untie": "npp", "show": "n",
                 "first": "nk", "next": "nkp*", "all": "nk", "count": "nk", "sizes": "nk",
                 "biggest": "nk", "fill": "nkp*"}
        marks = "".join("k" if form in KINDS else "x" if form in WORDS or len(form) > 8 else "p"
                        for form in rest)
        if word not in forms or not re.fullmatch(forms[word].replace("n", "p", 1), marks):
            return (NoAsk, None)
        if word == "web":
            self.webs[rest[0]] = NONE
            return []
        if rest[0] not in self.webs:
            return (NoAsk, None)
        if word in KIND_WORDS:
            return self.told(self.webs[rest[0]], word, rest[1], tuple(rest[2:]))
        return self.done(rest[0], word, rest[1:])

    def told(self, web, word, kind, row):
        if list(row) != sorted(set(row) & set(web[0])):
            return (NoAsk, None)
        rows = slowly_all(web, kind)
        sizes = [len(row) for row in rows]
        if word == "fill":
            if not slowly_of(web, kind, row):
                return (NoRow, None)
            return [" ".join(slowly_filled(web, kind, row))]
        if word == "next":
            if row not in rows:
                return (NoRow, None)
            return [" ".join(other) for other in rows if other > row][:1]
        if word == "count":
            return [str(len(rows))]
        if word == "sizes":
            return [f"{many} {sizes.count(many)}" for many in range(15) if many in sizes]
        if word == "biggest":
            wanted = min(sizes) if kind == "cover" else max(sizes)
            rows = [row for row in rows if len(row) == wanted]
        return [" ".join(row) for row in rows][:1 if word == "first" else None]

    def done(self, name, word, places):
        names, ties = self.webs[name]
        if word == "show":
            return rows_shown((names, ties))
        held = set(names)
        for place in places:
            if (place in held) == (word == "put"):
                return (NoName, place)
            if word == "put":
                held.add(place)
        tie = tuple(sorted(places))
        if word in ("tie", "untie") and tie[0] == tie[1]:
            return (NoName, tie[0])
        if word == "take":
            held.remove(places[0])
            ties = [other for other in ties if places[0] not in other]
        elif word != "put":
            ties = {*ties, tie} if word == "tie" else {*ties} - {tie}
        self.webs[name] = (tuple(sorted(held)), tuple(sorted(ties)))
        return []


def some_lines(many, seed):
    """Lines one behind another, some of them refused, the same at each run."""
    chance = seed

    def pick(things):
        nonlocal chance
        chance = (chance * 1103515245 + 12345) % 2 ** 31
        return things[chance // 65536 % len(things)]

    yield "web w"
    verbs = ["put", "put", "tie", "tie", "tie", "untie", "take", "show", "web", *KIND_WORDS, "fill", "next"]
    for at in range(many):
        verb = pick(verbs)
        words = [verb, pick(["w", "w", "w", "w", "w", "wx", "other"])]
        if verb == "web" and pick(range(4)):
            continue
        if verb in KIND_WORDS:
            words.append(pick([*KINDS, *KINDS, *KINDS, "kind"]))
        few = {"put": (1, 1, 2, 3), "take": (1,), "tie": (2,), "untie": (2,),
               "next": (0, 1, 2, 3), "fill": (0, 1, 2)}.get(verb, (0,))
        places = [pick(["b", "ba", "bab", "c", "ca", "cab", "zz", "abcdefgh"])
                  for place in range(pick(few))]
        words += sorted(places) if pick(range(4)) else places
        if not pick(range(25)):
            words.insert(pick(range(len(words))), pick(["", "tie", "q", "cover", "Q"]))
        if not pick(range(25)):
            words.pop()
        yield " ".join(words) + ("\n" if not pick(range(40)) else "")


class DeskCase(unittest.TestCase):
    def assert_told(self, desk, line, told):
        rows = desk.ask(line)
        self.assertIs(type(rows), list)
        self.assertTrue(all(type(row) is str for row in rows))
        self.assertEqual(rows, told, line)

    def assert_refused(self, desk, line, refusal, word=None):
        for again in range(2):
            with self.assertRaises(refusal, msg=repr(line)) as caught:
                desk.ask(line)
            self.assertIsInstance(caught.exception, SetError)
            self.assertIsInstance(caught.exception, ValueError)
            for other in (NoAsk, NoName, NoRow, NoWeb):
                self.assertEqual(isinstance(caught.exception, other), other is refusal, line)
            if refusal is NoName:
                self.assertEqual(caught.exception.word, word, line)

    def assert_webs(self, desk, webs):
        for name, web in webs.items():
            self.assert_told(desk, f"show {name}", rows_shown(web))

    def assert_refused_and_kept(self, webs, line, refusal, word=None):
        """A refusal of a desk with these webs, behind which all is as it was."""
        desk = desk_with(webs)
        self.assert_refused(desk, line, refusal, word)
        self.assert_webs(desk, webs)
        for name, web in webs.items():
            for kind in KINDS:
                self.assert_told(desk, f"all {name} {kind}",
                                 [" ".join(row) for row in slowly_all(web, kind)])


class ToldTest(DeskCase):
    def test_ask_stands_in_the_class(self):
        self.assertIn("ask", vars(Desk))

    def test_lines_written_out(self):
        desk = Desk()
        for line, told in [
                ("web house", []), ("show house", [""]), ("put house e", []),
                ("put house d c b a", []), ("show house", ["a b c d e"]),
                ("tie house a b", []), ("tie house c a", []), ("tie house b c", []),
                ("tie house d b", []), ("tie house c e", []), ("tie house e d", []),
                ("tie house a e", []), ("untie house e a", []), ("untie house a e", []),
                ("tie house a b", []),
                ("show house", ["a b c d e", "a b", "a c", "b c", "b d", "c e", "d e"]),
                ("first house tied", ["a b c"]), ("first house apart", ["a d"]),
                ("first house cover", ["a b e"]), ("next house tied a b c", ["b d"]),
                ("next house apart b e", ["c d"]), ("next house apart c d", []),
                ("next house cover a b e", ["a c d"]), ("next house cover b c e", []),
                ("all house tied", ["a b c", "b d", "c e", "d e"]),
                ("all house apart", ["a d", "a e", "b e", "c d"]),
                ("all house cover", ["a b e", "a c d", "b c d", "b c e"]),
                ("count house tied", ["4"]), ("sizes house tied", ["2 3", "3 1"]),
                ("sizes house apart", ["2 4"]), ("biggest house tied", ["a b c"]),
                ("biggest house cover", ["a b e", "a c d", "b c d", "b c e"]),
                ("fill house tied", ["a b c"]), ("fill house tied d", ["b d"]),
                ("fill house apart b", ["b e"]), ("fill house cover a b c d e", ["a c d"]),
                ("take house c", []), ("show house", ["a b d e", "a b", "b d", "d e"])]:
            self.assert_told(desk, line, told)

    def test_no_places(self):
        desk = desk_with({"w": NONE})
        for kind in KINDS:
            self.assert_told(desk, f"first w {kind}", [""])
            self.assert_told(desk, f"next w {kind}", [])
            self.assert_told(desk, f"all w {kind}", [""])
            self.assert_told(desk, f"count w {kind}", ["1"])
            self.assert_told(desk, f"sizes w {kind}", ["0 1"])
            self.assert_told(desk, f"biggest w {kind}", [""])
            self.assert_told(desk, f"fill w {kind}", [""])
        self.assert_told(desk, "show w", [""])

    def test_covers_of_no_ties(self):
        desk = desk_with({"w": without_ties(EIGHT)})
        for line in ("first w cover", "all w cover", "biggest w cover", "fill w cover",
                     "fill w cover a b c", "fill w cover a b c d e f g h"):
            self.assert_told(desk, line, [""])
        self.assert_told(desk, "next w cover", [])
        self.assert_told(desk, "sizes w cover", ["0 1"])

    def test_each_word_of_each_kind(self):
        for web in [*DESK_WEBS, *all_small_webs()]:
            desk, slow = desk_with({"w": web}), SlowDesk()
            slow.webs = {"w": web}
            for kind in KINDS:
                for word in ("first", "all", "count", "sizes", "biggest"):
                    self.assert_told(desk, f"{word} w {kind}", slow.ask(f"{word} w {kind}"))
                row = web[0] if kind == "cover" else ()
                self.assert_told(desk, " ".join(["fill w", kind, *row]),
                                 [" ".join(slowly_filled(web, kind, row))])
                rows = slowly_all(web, kind)
                for row, behind in zip(rows, [*rows[1:], None]):
                    self.assert_told(desk, " ".join(["next w", kind, *row]),
                                     [] if behind is None else [" ".join(behind)])
            self.assert_webs(desk, {"w": web})

    def test_each_row_is_filled_or_refused(self):
        for web in (NONE, ONE, PATH, HOUSE, STAR, BEGINNINGS):
            desk = desk_with({"w": web})
            for kind in KINDS:
                for row in rows_of(web):
                    line = " ".join(["fill w", kind, *row])
                    if slowly_of(web, kind, row):
                        self.assert_told(desk, line, [" ".join(slowly_filled(web, kind, row))])
                    else:
                        self.assert_refused(desk, line, NoRow)
                    if row not in slowly_all(web, kind):
                        self.assert_refused(desk, " ".join(["next w", kind, *row]), NoRow)
            self.assert_webs(desk, {"w": web})

    def test_put_one_and_several(self):
        desk = Desk()
        for line in ("web w", "put w c", "put w zz abcdefgh a", "put w b q"):
            self.assert_told(desk, line, [])
        self.assert_told(desk, "show w", ["a abcdefgh b c q zz"])

    def test_taken_out_with_its_ties(self):
        desk = desk_with({"w": HOUSE})
        self.assert_told(desk, "take w b", [])
        self.assert_told(desk, "show w", ["a c d e", "a c", "c e", "d e"])
        self.assert_told(desk, "put w b", [])
        self.assert_told(desk, "show w", ["a b c d e", "a c", "c e", "d e"])

    def test_a_tie_that_is_there_and_untying_none(self):
        desk = desk_with({"w": PATH})
        for line in ("tie w a b", "tie w b a", "untie w a c", "untie w c a", "untie w d a"):
            self.assert_told(desk, line, [])
            self.assert_webs(desk, {"w": PATH})

    def test_webs_under_several_names(self):
        webs = {"a": PATH, "b": HOUSE, "house": STAR, "abcdefgh": NONE}
        desk = desk_with(webs)
        self.assert_webs(desk, webs)
        self.assert_told(desk, "put a e", [])
        self.assert_told(desk, "untie b a b", [])
        self.assert_told(desk, "show a", ["a b c d e", "a b", "b c", "c d"])
        self.assert_told(desk, "show b", ["a b c d e", "a c", "b c", "b d", "c e", "d e"])
        self.assert_webs(desk, {"house": STAR, "abcdefgh": NONE})

    def test_one_begun_anew_in_the_place_of_another(self):
        desk = desk_with({"w": HOUSE, "v": PATH})
        self.assert_told(desk, "web w", [])
        self.assert_webs(desk, {"w": NONE, "v": PATH})
        self.assert_told(desk, "all w tied", [""])
        self.assert_told(desk, "put w b a", [])
        self.assert_told(desk, "show w", ["a b"])
        self.assert_told(desk, "web w", [])
        self.assert_told(desk, "show w", [""])

    def test_places_may_have_the_name_of_the_web(self):
        desk = Desk()
        for line in ("web a", "put a a b", "tie a a b"):
            self.assert_told(desk, line, [])
        self.assert_told(desk, "show a", ["a b", "a b"])
        self.assert_told(desk, "fill a tied a", ["a b"])

    def test_two_desks_do_not_disturb_each_other(self):
        one, other = desk_with({"w": PATH}), desk_with({"w": HOUSE})
        self.assert_webs(one, {"w": PATH})
        one.ask("take w a")
        one.ask("web v")
        self.assert_webs(other, {"w": HOUSE})
        self.assert_refused(other, "show v", NoAsk)
        self.assert_refused(Desk(), "show w", NoAsk)

    def test_told_lists_are_the_askers_own(self):
        desk = desk_with({"w": HOUSE})
        lines = ["show w", "all w tied", "biggest w apart", "sizes w tied", "count w tied",
                 "first w cover", "fill w apart", "next w apart a d"]
        for line in lines:
            rows, other = desk.ask(line), desk.ask(line)
            kept = list(rows)
            rows.clear()
            rows.append("strange")
            self.assertEqual(other, kept)
            self.assert_told(desk, line, kept)
            desk.ask("web v").append("strange")
            self.assert_told(desk, "web v", [])
            self.assertEqual(other, kept)
        told = desk.ask("all w tied")
        desk.ask("take w a")
        self.assertEqual(told, ["a b c", "b d", "c e", "d e"])

    def test_lines_one_behind_another(self):
        counted = {list: 0, NoAsk: 0, NoName: 0, NoRow: 0}
        for seed in range(8):
            desk, slow = Desk(), SlowDesk()
            for line in some_lines(400, seed):
                told = slow.ask(line)
                if isinstance(told, list):
                    counted[list] += 1
                    self.assert_told(desk, line, told)
                else:
                    counted[told[0]] += 1
                    self.assert_refused(desk, line, *told)
                self.assert_webs(desk, slow.webs)
        self.assertTrue(all(many > 50 for many in counted.values()), counted)


class NoAskTest(DeskCase):
    WEBS = {"w": HOUSE, "v": PATH}

    def assert_no_ask(self, line):
        self.assert_refused_and_kept(self.WEBS, line, NoAsk)

    def test_words_lacking(self):
        for line in ("web", "put", "take", "tie", "untie", "show", *KIND_WORDS,
                     "put w", "take w", "tie w", "untie w", "tie w a", "untie w a",
                     *(f"{word} w" for word in KIND_WORDS)):
            self.assert_no_ask(line)

    def test_words_too_many(self):
        for line in ("web w v", "web x y", "take w a b", "tie w a b c", "untie w a b c", "show w v",
                     "show w tied", "web w tied"):
            self.assert_no_ask(line)
        for word in KIND_WORDS:
            for kind in KINDS:
                self.assert_no_ask(f"{word} w {kind} {kind}")
                if word not in ("next", "fill"):
                    self.assert_no_ask(f"{word} w {kind} a")

    def test_a_kind_where_there_is_none(self):
        for line in ("put w tied x", "take w tied a", "tie w tied a b", "show tied"):
            self.assert_no_ask(line)

    def test_blanks(self):
        for line in ("show w", "put w x y", "take w a", "tie w a d", "untie w a b", "web w", "web x",
                     "all w tied", "fill w apart a", "next w apart a d", "first w cover"):
            words = line.split(" ")
            self.assert_no_ask(" " + line)
            self.assert_no_ask(line + " ")
            for at in range(1, len(words)):
                self.assert_no_ask(" ".join(words[:at]) + "  " + " ".join(words[at:]))
        for line in ("", " ", "  "):
            self.assert_no_ask(line)

    def test_line_ends(self):
        for line in ("show w", "put w x y", "take w a", "tie w a d", "untie w a b", "web w", "web x",
                     "all w tied", "fill w apart a", "next w apart a d", "first w cover", "fill w tied"):
            self.assert_no_ask(line + "\n")
            self.assert_no_ask("\n" + line)
            for at, sign in enumerate(line):
                if sign == " ":
                    self.assert_no_ask(line[:at] + "\n" + line[at + 1:])
                    self.assert_no_ask(line[:at] + "\n" + line[at:])
                    self.assert_no_ask(line[:at] + " \n" + line[at + 1:])
        self.assert_no_ask("\n")
        self.assert_no_ask("show w\nshow w")

    def test_words_that_are_none(self):
        for line in ("shows w", "Show w", "see w", "w", "w show", "a b c", "tied w", "apart w tied",
                     "cover w", "kind w tied", "sho w", "puts w x", "size w tied", "~ w"):
            self.assert_no_ask(line)

    def test_webs_names_that_are_none(self):
        for name in NO_NAMES:
            for line in ("web {}", "put {} x", "take {} a", "tie {} a b", "untie {} a b", "show {}",
                         *(word + " {} tied" for word in KIND_WORDS)):
                self.assert_no_ask(line.format(name))

    def test_places_that_are_no_names(self):
        for name in NO_NAMES:
            for line in ("put w {}", "put w x {}", "put w {} x", "take w {}", "tie w {} a",
                         "tie w a {}", "untie w {} a", "untie w a {}", "fill w tied {}",
                         "fill w apart a {}", "next w apart {}", "next w apart a d {}"):
                self.assert_no_ask(line.format(name))

    def test_webs_that_are_not_there(self):
        for line in ("put x a", "take x a", "tie x a b", "untie x a b", "show x", "show ww",
                     *(f"{word} x {kind}" for word in KIND_WORDS for kind in KINDS),
                     "fill x tied a", "next x apart a d"):
            self.assert_no_ask(line)
            self.assert_refused(Desk(), line, NoAsk)

    def test_a_refused_line_begins_no_web(self):
        desk = Desk()
        for line in ("web x y", "web  x", "web x\n", "web x ", " web x", "put x a"):
            self.assert_refused(desk, line, NoAsk)
            self.assert_refused(desk, "show x", NoAsk)

    def test_kinds_that_are_none(self):
        for kind in ("kind", "a", "Tied", "ties", "tie", "covers", "w", "first", "1", "", "tied\n"):
            for word in KIND_WORDS:
                self.assert_no_ask(f"{word} w {kind}")
            self.assert_no_ask(f"fill w {kind} a")
            self.assert_no_ask(f"next w {kind} a d")

    def test_places_of_fill_and_next(self):
        for word in ("fill", "next"):
            for kind in KINDS:
                for places in ("x", "a x", "aa", "a b c x", "x a",     # none of the web's
                               "a a", "a b b", "a b a", "e e",         # twice
                               "b a", "c b a", "a c b", "d a", "e b"):  # not in order
                    self.assert_no_ask(f"{word} w {kind} {places}")

    def test_places_of_another_web(self):
        self.assert_no_ask("fill v tied e")
        self.assert_no_ask("next v apart a e")

    def test_a_place_that_was_taken_out(self):
        desk = desk_with({"w": HOUSE})
        desk.ask("take w c")
        self.assert_refused(desk, "fill w tied c", NoAsk)
        self.assert_refused(desk, "next w tied a c", NoAsk)


class OtherRefusalsTest(DeskCase):
    WEBS = {"w": HOUSE, "v": PATH}

    def test_no_name(self):
        for line, word in [
                ("put w a", "a"), ("put w x a", "a"), ("put w x y e", "e"), ("put w b a", "b"),
                ("put w x x", "x"), ("put w x y x", "x"), ("put w x y y x", "y"),
                ("put w a a", "a"), ("put w x x a", "x"), ("put w x a x", "a"),
                ("take w x", "x"), ("take w aa", "aa"),
                ("tie w x a", "x"), ("tie w a x", "x"), ("tie w x y", "x"), ("tie w y x", "y"),
                ("tie w a a", "a"), ("tie w x x", "x"),
                ("untie w x a", "x"), ("untie w a x", "x"), ("untie w x y", "x"),
                ("untie w y x", "y"), ("untie w a a", "a"), ("untie w x x", "x"),
                ("take v e", "e"), ("tie v a e", "e"), ("put v w a", "a")]:
            self.assert_refused_and_kept(self.WEBS, line, NoName, word)

    def test_a_refused_put_puts_none(self):
        desk = desk_with(self.WEBS)
        self.assert_refused(desk, "put w x y a", NoName, "a")
        self.assert_told(desk, "put w y x", [])
        self.assert_told(desk, "show w", ["a b c d e x y", *rows_shown(HOUSE)[1:]])
        self.assert_refused(desk, "put w z q z", NoName, "z")
        self.assert_told(desk, "put w z", [])

    def test_no_row(self):
        for line in ("fill w tied a d", "fill w tied a b c d", "fill w apart a b", "fill w apart c e",
                     "fill w cover", "fill w cover a b c", "fill w cover b d",
                     "next w tied", "next w tied a b", "next w tied a d", "next w apart",
                     "next w apart a", "next w apart a b", "next w cover", "next w cover a b c d e",
                     "next w cover a b", "next v apart c", "next v tied a c"):
            self.assert_refused_and_kept(self.WEBS, line, NoRow)

    def test_no_ask_comes_ahead_of_no_name(self):
        for line in ("put w a A", "put w A a", "put w a tie", "put x a a", "put w a  b", "put w a ",
                     "put w a\n", "take x x", "take w x y", "take w x ", "tie w a a a", "tie x a a",
                     "tie w x tied", "tie w x Y", "tie w x", "untie w a a ", "untie x x x",
                     "untie w x y z", "take  w x", " put w a", "put w a a tied"):
            self.assert_refused_and_kept(self.WEBS, line, NoAsk)

    def test_no_ask_comes_ahead_of_no_row(self):
        for line in ("fill w tied a d x", "fill w tied d a", "fill w tied a a d", "fill w kind a d",
                     "fill x tied a d", "fill w tied a d ", "fill w tied a d\n", "fill w apart b a",
                     "next w tied b a", "next w tied a x", "next w tied a a", "next x tied",
                     "next w kind", "next w cover  ", "next w apart a Tie", "fill w cover q"):
            self.assert_refused_and_kept(self.WEBS, line, NoAsk)


if __name__ == "__main__":
    unittest.main()
