"""Point [51] and what the interface says of the desk, with [1] for it."""

import random
import unittest

from commonweb.byties import greatest_by_ties
from commonweb.counts import ties_bound
from commonweb.desk import Desk
from commonweb.errors import NoRow, NoText, WebError
from commonweb.lines import shape_of
from commonweb.lying import count_lying, greatest_lying
from commonweb.sameness import same_lead
from commonweb.shares import distance
from commonweb.texts import show_web
from commonweb.together import together_by_ties, together_lying
from commonweb.webs import parts
from tests.plain import plain_best
from tests.samples import (
    ALONE, LETTERS, MANY, MIXED, NOWHERE, chance_web, full_web, odd_things, renamed, ring_web, row_web,
    seven_webs, star_web,
)
from tests.shapes import chance_tree, shuffled

ROW = ("abab", ((0, 1, "x"), (1, 2, "x"), (2, 3, "y")))
RING = ("abab", ((0, 1, "x"), (0, 3, "y"), (1, 2, "x"), (2, 3, "x")))
OF_TWO = ("lies", "ties", "count", "same", "distance", "bound")
OF_ONE = ("text", "shape", "parts")


class Text(str):
    pass


def desk_with(**webs):
    desk = Desk()
    for name, web in webs.items():
        desk.say("have " + name + "\n" + show_web(web))
    return desk


def asked_of_two(one, other):
    """For each row about two webs, but for their names, what the functions answer."""
    above, below = distance(one, other)
    lead = same_lead(one, other)
    return {
        "lies": str(greatest_lying(one, other)[0]),
        "ties": str(greatest_by_ties(one, other)[0]),
        "lies together": str(together_lying(one, other)[0]),
        "ties together": str(together_by_ties(one, other)[0]),
        "count": str(count_lying(one, other)),
        "same": "no" if lead is None else " ".join("%d>%d" % pair for pair in lead) or "yes",
        "distance": "%d/%d" % (above, below),
        "bound": str(ties_bound(one, other)),
    }


class OneDesk(unittest.TestCase):
    """Each test has a desk with some webs, and holds against what these are."""

    def setUp(self):
        self.kept = {"row": ROW, "ring": RING, "none": NOWHERE, "a": ALONE, "mixed": MIXED}
        self.kept.update({"z": row_web(7), "zzzzzz": ring_web(7)})
        self.desk = desk_with(**self.kept)

    def say(self, row, wanted):
        told = self.desk.say(row)
        self.assertEqual(told, wanted, row)
        self.assertIs(type(told), str)

    def refuse(self, row, error=NoRow):
        with self.assertRaises(error) as caught:
            self.desk.say(row)
        self.assertIs(type(caught.exception), error)

    def assert_kept(self):
        """The webs of the desk are as they were."""
        for name, web in self.kept.items():
            self.say("text " + name, show_web(web) or "none")


class Have(OneDesk):
    def test_ok(self):
        self.say("have b\nplace a\n", "ok")
        self.say("have other\n", "ok")
        self.say("have b\n" + show_web(full_web("a" * MANY, "t")), "ok")
        self.say("text b", show_web(full_web("a" * MANY, "t")))
        self.say("text other", "none")
        self.assert_kept()

    def test_names_of_one_to_six_small_letters(self):
        for name in ("a", "z", "ab", "abcdef", "zzzzzz", "have", "lies", "text", "ok", "no", "tie", "place"):
            self.say("have " + name + "\nplace a\n", "ok")
            self.say("parts " + name, "1")
            self.say("same " + name + " " + name, "0>0")
        for name in ("", "abcdefg", "together", "A", "aB", "a1", "1", "_", "a-b", "\u00e9", "`", "{", "a\r", "\ta",
                "a" * 1000):
            self.refuse("have " + name + "\nplace a\n")
            self.refuse("have " + name + "\n")
            self.refuse("text " + name)
        self.refuse("have\nplace a\n")

    def test_kept_anew(self):
        self.say("text row", show_web(ROW))
        self.say("have row\n" + show_web(RING), "ok")
        self.say("text row", show_web(RING))
        self.say("same row ring", "0>0 1>1 2>2 3>3")
        self.say("have row\n", "ok")
        self.say("text row", "none")
        self.kept["row"] = NOWHERE
        self.assert_kept()

    def test_a_text_that_is_none(self):
        for text in ("\n", "place", "place a", "place A\n", "place a\n\n", "tie 0 1 x\n",
                "place a\nplace b\ntie 1 0 x\n", " ", "none",
                     "place a\nplace b\ntie 0 01 x\n", "place a\n ", "\nplace a\n", "have b\nplace a\n", "1" * 5000):
            self.refuse("have row\n" + text, NoText)
            self.refuse("have fresh\n" + text, NoText)
            self.refuse("text fresh")
            # Where the name is none, too, that is told first.
            for name in ("", "A", "abcdefg", "a b", " row", "row ", "row  row"):
                self.refuse("have " + name + "\n" + text)
        self.assert_kept()

    def test_other_words_ahead_of_a_text(self):
        text = show_web(ROW)
        for head in ("", " ", "have", "have ", " have b", "have  b", "have b ", "have b c", "Have b", "HAVE b",
                "hav b", "haveb", "keep b",
                     "b", "have\tb", "text row", "parts row", "lies row ring", "have b\r", "have b\x0b"):
            self.refuse(head + "\n" + text)
            self.refuse(head + "\n")
            self.refuse(head + "\nno text")
        self.refuse("have b")
        self.refuse("have b" + text)
        self.refuse("have b " + text)
        self.refuse("\nhave b\n" + text)
        self.assert_kept()


class OfTwo(OneDesk):
    def test_some(self):
        self.say("lies row ring", "3")
        self.say("ties row ring", "3")
        self.say("lies row ring together", "3")
        self.say("ties row ring together", "3")
        self.say("count row ring", "3")
        self.say("same row ring", "no")
        self.say("same row row", "0>0 1>1 2>2 3>3")
        self.say("same none none", "yes")
        self.say("same none a", "no")
        self.say("same a none", "no")
        self.say("distance row ring", "1/4")
        self.say("distance none none", "0/1")
        self.say("distance none ring", "1/1")
        self.say("bound row ring", "3")
        self.say("lies z zzzzzz", "6")
        self.say("lies none ring together", "0")
        self.assert_kept()

    def test_together_is_not_whether_or_not(self):
        self.desk.say("have b\nplace a\nplace a\nplace a\nplace a\ntie 0 1 x\ntie 2 3 x\n")
        self.say("lies b b", "4")
        self.say("lies b b together", "2")
        self.say("ties b b", "2")
        self.say("ties b b together", "1")
        self.say("count b b", "8")

    def test_each_row_as_the_functions_answer(self):
        chance = random.Random(51)
        for one in (NOWHERE, ALONE, MIXED, ROW, *seven_webs()[:6],
                *[chance_web(chance, 7, "ab", "tu", share) for share in (2, 5, 8)]):
            for other in (one, shuffled(chance, one), ROW, NOWHERE, chance_web(chance, 6, "ab", "tu", 4)):
                self.desk = desk_with(one=one, other=other)
                for word, wanted in asked_of_two(one, other).items():
                    word, *behind = word.split(" ")
                    self.say(" ".join([word, "one", "other", *behind]), wanted)

    def test_held_against_all_leads(self):
        chance = random.Random(52)
        for _ in range(20):
            one, other = chance_web(chance, 5, "ab", "tu", 4), chance_web(chance, 4, "ab", "tu", 4)
            self.desk = desk_with(one=one, other=other)
            best = plain_best(one, other)
            self.say("lies one other", str(best["lies", False].size))
            self.say("count one other", str(best["lies", False].many))
            self.say("lies one other together", str(best["lies", True].size))
            self.say("ties one other", str(best["ties", False].size))
            self.say("ties one other together", str(best["ties", True].size))

    def test_which_is_first(self):
        self.desk = desk_with(one=("ab", ()), other=("bca", ()))
        self.say("same one other", "no")
        self.desk.say("have other\nplace b\nplace a\n")
        self.say("same one other", "0>1 1>0")
        turned = renamed(row_web(4), [1, 2, 3, 0])
        self.desk = desk_with(one=row_web(4), other=turned)
        self.say("same one other", " ".join("%d>%d" % pair for pair in same_lead(row_web(4), turned)))
        self.say("same other one", " ".join("%d>%d" % pair for pair in same_lead(turned, row_web(4))))

    def test_names_not_kept(self):
        for word in OF_TWO:
            for names in ("row b", "b row", "b b", "b c", "row A", "A row", "row abcdefg", "row ", " row"):
                self.refuse(word + " " + names)
        for word in ("lies", "ties"):
            for names in ("row b", "b row", "b c"):
                self.refuse(word + " " + names + " together")
        self.assert_kept()

    def test_webs_of_more_than_seven_places(self):
        for web in (row_web(8), ("a" * 8, ()), full_web("a" * MANY, "t"), ("abcdefgh", ())):
            self.desk.say("have big\n" + show_web(web))
            for word in OF_TWO:
                for names in ("big row", "row big", "big big", "big none", "none big", "big z", "z big", "big b",
                        "b big"):
                    self.refuse(word + " " + names)
            for word in ("lies", "ties"):
                for names in ("big row", "row big", "big big"):
                    self.refuse(word + " " + names + " together")
            self.say("text big", show_web(web))
            self.say("parts big", str(len(parts(web))))
            self.say("shape big", shape_of(web) or "web")
        # Seven are not too many, and a web kept anew may be of as many.
        self.say("have big\n" + show_web(star_web(7)), "ok")
        for word in OF_TWO:
            self.assertIs(type(self.desk.say(word + " big z")), str)

    def test_no_together_elsewhere(self):
        for word in ("count", "same", "distance", "bound", "text", "shape", "parts"):
            self.refuse(word + " row ring together")
            self.refuse(word + " row together")
        for word in ("lies", "ties"):
            for behind in ("row together", "row ring Together", "row ring togethe", "row ring together together",
                    "row ring  together",
                           "row ring together ", "together row ring", "row together ring", "row ring none",
                           "row ring apart"):
                self.refuse(word + " " + behind)


class OfOne(OneDesk):
    def test_some(self):
        self.say("text none", "none")
        self.say("text a", "place a\n")
        self.say("text row", "place a\nplace b\nplace a\nplace b\ntie 0 1 x\ntie 1 2 x\ntie 2 3 y\n")
        self.say("shape none", "web")
        self.say("shape a", "row")
        self.say("shape row", "row")
        self.say("shape ring", "ring")
        self.say("shape mixed", "web")
        self.say("parts none", "0")
        self.say("parts a", "1")
        self.say("parts row", "1")
        self.say("parts mixed", "3")

    def test_shapes_and_parts(self):
        chance = random.Random(53)
        shapes = {
            "row": [row_web(2), row_web(3), row_web(MANY), row_web(9, turned=True)],
            "ring": [ring_web(3), ring_web(8), ring_web(MANY)],
            "tree": [star_web(4), star_web(MANY), chance_tree(chance, MANY)],
            "web": [("aa", ()), ("a" * MANY, ()), full_web("aaaa", "t"), full_web("a" * MANY, "t")],
        }
        # A ring and a place, and two rings.
        shapes["web"].append(("aaaa", ((0, 1, "t"), (0, 2, "t"), (1, 2, "t"))))
        shapes["web"].append(("a" * 6, ((0, 1, "t"), (0, 2, "t"), (1, 2, "t"), (3, 4, "t"), (3, 5, "t"), (4, 5, "t"))))
        for shape, webs in shapes.items():
            for web in webs:
                self.desk.say("have it\n" + show_web(web))
                self.say("shape it", shape)
                self.say("parts it", str(len(parts(web))))
                self.say("text it", show_web(web))

    def test_any_size(self):
        for web in (("a" * MANY, ()), full_web("a" * MANY, "tu"), ((LETTERS * 2)[:MANY], row_web(MANY)[1])):
            self.desk.say("have it\n" + show_web(web))
            self.say("text it", show_web(web))
            self.say("parts it", str(len(parts(web))))

    def test_names_not_kept(self):
        for word in OF_ONE:
            for name in ("b", "rows", "ro", "A", "", "abcdefg", "row row", "row ring", "row\n", "row\nplace a\n"):
                self.refuse(word + " " + name)
        self.assert_kept()


class NoSuchRow(OneDesk):
    def test_blanks_and_line_feeds(self):
        for row in ("lies row ring", "ties row ring together", "same row ring", "text row", "parts none", "shape ring"):
            self.assertIs(type(self.desk.say(row)), str)
            for other in (" " + row, row + " ", "\n" + row, row + "\n", row + "\r", "\t" + row, row + "\t",
                    row + "\n\n"):
                self.refuse(other)
            for at, sign in enumerate(row):
                if sign == " ":
                    for blank in ("  ", "\n", "\t", "", "\u00a0", " \n", "\n "):
                        self.refuse(row[:at] + blank + row[at + 1:])
        self.assert_kept()

    def test_words_more_fewer_and_other_ones(self):
        for row in ("", " ", "\n", "\n\n", "lies", "text", "have", "row", "row ring", "lies row", "ties row",
                "count row", "same row",
                    "distance row", "bound row", "text", "shape", "parts", "text row ring", "shape row ring",
                    "parts row row",
                    "lies row ring ring", "count row ring mixed", "LIES row ring", "Text row", "lie row ring",
                    "liess row ring", "has row",
                    "drop row", "show row", "marks row", "together row ring", "kinds row ring", "none none",
                    "place a", "tie 0 1 x",
                    "lies row,ring", "lies, row ring", "row lies ring", "0", "x" * 6000, "lies " * 1200):
            self.refuse(row)
        self.assert_kept()

    def test_what_is_no_text(self):
        for name, thing in odd_things().items():
            with self.subTest(name=name):
                self.refuse(thing)
        for thing in (b"text row", ["text row"], ("text", "row"), Text("text row"), {"text": "row"}, 7):
            self.refuse(thing)
        self.assertTrue(issubclass(NoRow, WebError))
        self.assert_kept()


class Desks(unittest.TestCase):
    def test_a_new_desk_has_no_webs(self):
        desk = Desk()
        for row in ("text a", "parts a", "shape a", "lies a a", "same a a"):
            with self.assertRaises(NoRow):
                desk.say(row)

    def test_two_desks_know_nothing_of_each_other(self):
        one, other = Desk(), Desk()
        one.say("have a\nplace a\n")
        with self.assertRaises(NoRow):
            other.say("text a")
        other.say("have a\nplace b\n")
        self.assertEqual(one.say("text a"), "place a\n")
        self.assertEqual(other.say("text a"), "place b\n")
        other.say("have b\n")
        with self.assertRaises(NoRow):
            one.say("lies a b")

    def test_an_answer_changes_nothing(self):
        desk = desk_with(a=ROW, b=RING)
        rows = [word + " a b" for word in OF_TWO] + ["lies a b together", "ties a b together"]
        rows += [word + " " + name for word in OF_ONE for name in ("a", "b")]
        told = [desk.say(row) for row in rows]
        self.assertEqual([desk.say(row) for row in reversed(rows)], told[::-1])


if __name__ == "__main__":
    unittest.main()
