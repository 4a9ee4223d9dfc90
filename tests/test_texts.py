"""Point [50], with [1] for it."""

import random
import unittest

from commonweb.errors import NoText, WebError
from commonweb.texts import read_web, show_web
from commonweb.webs import is_web
from tests.samples import (
    ALONE, LETTERS, MANY, MIXED, NOWHERE, all_webs, chance_web, deep, full_web, odd_things, ring_web, row_web, star_web,
)
from tests.shapes import big_trees

TEXT = "place a\nplace b\nplace c\ntie 0 1 x\ntie 0 2 y\ntie 1 2 x\n"
WEB = ("abc", ((0, 1, "x"), (0, 2, "y"), (1, 2, "x")))


def lines_of(web):
    """The text written line by line."""
    told = ""
    for kind in web[0]:
        told += "place " + kind + "\n"
    for place, other, kind in web[1]:
        told += "tie %d %d %s\n" % (place, other, kind)
    return told


def webs():
    chance = random.Random(50)
    told = [NOWHERE, ALONE, MIXED, WEB, *all_webs(), *big_trees(), ring_web(MANY), star_web(MANY)]
    return told + [chance_web(chance, many, LETTERS, LETTERS, 3) for many in range(MANY + 1)]


class ShowWeb(unittest.TestCase):
    def test_some(self):
        self.assertEqual(show_web(NOWHERE), "")
        self.assertEqual(show_web(ALONE), "place a\n")
        self.assertEqual(show_web(WEB), TEXT)
        self.assertEqual(show_web(("zz", ((0, 1, "z"),))), "place z\nplace z\ntie 0 1 z\n")
        self.assertEqual(show_web(row_web(40)).split("\n")[-3:], ["tie 37 38 t", "tie 38 39 t", ""])
        self.assertEqual(show_web(row_web(40)).split("\n")[49:51], ["tie 9 10 t", "tie 10 11 t"])

    def test_line_by_line(self):
        for web in webs():
            told = show_web(web)
            self.assertIs(type(told), str)
            self.assertEqual(told, lines_of(web))


class ReadWeb(unittest.TestCase):
    def test_just_that_web(self):
        for web in webs():
            told = read_web(lines_of(web))
            self.assertEqual(told, web)
            self.assertIs(is_web(told), True)
            self.assertEqual(read_web(show_web(told)), web)

    def test_some(self):
        self.assertEqual(read_web(""), NOWHERE)
        self.assertEqual(read_web("place a\n"), ALONE)
        self.assertEqual(read_web(TEXT), WEB)

    def refuse(self, text):
        with self.assertRaises(NoText) as caught:
            read_web(text)
        self.assertIs(type(caught.exception), NoText)
        self.assertTrue(issubclass(NoText, WebError))

    def test_line_feeds_missing_or_more(self):
        self.refuse(TEXT[:-1])
        self.refuse(TEXT + "\n")
        self.refuse("\n" + TEXT)
        self.refuse("\n")
        self.refuse("\n\n")
        self.refuse("place a")
        self.refuse("place a\n\n")
        self.refuse("\nplace a\n")
        for at, sign in enumerate(TEXT):
            if sign == "\n":
                self.refuse(TEXT[:at] + TEXT[at + 1:])
                self.refuse(TEXT[:at] + "\n" + TEXT[at:])
                self.refuse(TEXT[:at] + " " + TEXT[at + 1:])
            else:
                self.refuse(TEXT[:at] + "\n" + TEXT[at:])

    def test_noughts_ahead_and_other_numbers(self):
        twelve = lines_of(row_web(12))
        self.assertEqual(read_web(twelve), row_web(12))
        self.refuse(twelve.replace("tie 10 11", "tie 010 11"))
        self.refuse(twelve.replace("tie 10 11", "tie 10 011"))
        self.refuse(twelve.replace("tie 0 1 ", "tie 00 1 "))
        self.refuse(twelve.replace("tie 1 2 ", "tie 1 02 "))
        for number in ("-0", "+0", "0.0", "0_0", "0x0", "O", "a", "", "-1", "1e0", "0" * 5000, "00"):
            self.refuse(TEXT.replace("tie 0 2", "tie " + number + " 2"))
        for number in ("+2", "2.0", "02", "3", "12", "22", "1", "0", "x", "", "2" * 5000, "1" + "0" * 4400):
            self.refuse(TEXT.replace("tie 0 2", "tie 0 " + number))

    def test_lines_out_of_order_or_twice(self):
        lines = TEXT.splitlines(keepends=True)
        self.refuse("".join(reversed(lines)))
        for at in range(3, 5):
            self.refuse("".join(lines[:at] + [lines[at + 1], lines[at]] + lines[at + 2:]))
        # A tie ahead of the places, or a place behind a tie.
        self.refuse("".join([lines[5]] + lines[:5]))
        for at in range(4, 7):
            self.refuse("".join(lines[:at] + ["place d\n"] + lines[at:]))
        for at in range(3, 6):
            self.refuse("".join(lines[:at] + [lines[at]] + lines[at:]))
        self.refuse(TEXT + "tie 1 2 y\n")
        self.refuse("tie 0 1 x\n" + "place a\nplace b\n")
        self.refuse("place a\ntie 0 1 x\nplace b\n")

    def test_places_that_are_not_there(self):
        self.refuse(TEXT + "tie 2 3 x\n")
        self.refuse(TEXT + "tie 3 4 x\n")
        self.refuse("tie 0 1 x\n")
        self.refuse("place a\ntie 0 1 x\n")
        self.refuse("place a\ntie 0 0 x\n")
        self.refuse("place a\nplace b\ntie 1 0 x\n")
        self.refuse("place a\nplace b\ntie 1 1 x\n")
        self.refuse("".join(TEXT.splitlines(keepends=True)[1:]))

    def test_great_letters_and_other_signs(self):
        self.refuse(TEXT.upper())
        self.refuse(TEXT.replace("place a", "place A"))
        self.refuse(TEXT.replace("place a", "Place a"))
        self.refuse(TEXT.replace("tie 0 1 x", "Tie 0 1 x"))
        self.refuse(TEXT.replace("tie 0 1 x", "tie 0 1 X"))
        for kind in ("", "0", "ab", "`", "{", "_", "-", "a\r", "a\t", "a\x0b", "a\x1c", "\u00e9", "\u0430", " a", "a "):
            self.refuse(TEXT.replace("place a", "place " + kind))
            self.refuse(TEXT.replace("tie 0 1 x", "tie 0 1 " + kind))
        self.refuse(TEXT.replace("tie 0 1", "tie \u0660 1"))
        self.refuse(TEXT.replace("tie 0 1", "tie 0 \u00b9"))
        self.refuse(TEXT.replace("\n", "\r\n"))
        self.refuse(TEXT.replace("\n", "\r"))
        self.refuse(TEXT.replace("\n", "\x0b"))
        self.refuse(TEXT.replace("\n", "\u2028"))

    def test_blanks_more_or_less(self):
        for at, sign in enumerate(TEXT):
            self.refuse(TEXT[:at] + " " + TEXT[at:])
            if sign == " ":
                self.refuse(TEXT[:at] + TEXT[at + 1:])
                self.refuse(TEXT[:at] + "\t" + TEXT[at + 1:])
        self.refuse(TEXT + " ")
        self.refuse(" ")
        self.refuse(" \n")

    def test_other_lines(self):
        for line in ("none", "place", "tie", "place a b", "tie 0 1", "tie 0 1 x y", "tie 0 x", "places a",
                "knot 0 1 x", "a", "0",
                     "# place a", "have abc", "tie x 0 1", "place 0", "('a', ())", "place a tie 0 1 x"):
            self.refuse(line)
            self.refuse(line + "\n")
            self.refuse(TEXT + line + "\n")
            self.refuse(line + "\n" + TEXT)
            self.refuse("place a\n" + line + "\n")

    def test_each_sign_otherwise(self):
        for at in range(len(TEXT)):
            for sign in " 0129axz{`A\n-":
                text = TEXT[:at] + sign + TEXT[at + 1:]
                try:
                    told = read_web(text)
                except NoText:
                    continue
                self.assertEqual(lines_of(told), text)
            if at and TEXT[at - 1] != "\n":
                self.refuse(TEXT[:at])

    def test_long_texts(self):
        self.refuse("place a" * 900)
        self.refuse("place a\n" * 750 + " ")
        self.refuse("0" * 6000)
        self.refuse("\n" * 6000)
        self.assertEqual(read_web(lines_of(full_web("a" * MANY, "tuv"))), full_web("a" * MANY, "tuv"))

    def test_what_is_no_text_at_all(self):
        for name, thing in odd_things().items():
            with self.subTest(name=name):
                self.refuse(thing)
        self.refuse(deep(list))
        self.refuse(TEXT.encode())


if __name__ == "__main__":
    unittest.main()
