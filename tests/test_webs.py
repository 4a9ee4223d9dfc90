"""Points [3] to [6], and [1] as far as webs go."""

import unittest

from commonweb.webs import cut, hangs, is_web, neighbours, parts, tie_of
from tests.samples import (
    ALONE, MANY, MIXED, NOWHERE, all_webs, deep, full_web, odd_things, plain_parts, plain_tie,
    row_web, small_webs,
)

GOOD = ("ab", ((0, 1, "x"),))


class IsWeb(unittest.TestCase):
    """[3]"""

    def assert_no_webs(self, things):
        for name, thing in things.items():
            with self.subTest(name=name):
                self.assertIs(is_web(thing), False)

    def test_webs_are_webs(self):
        for web in all_webs():
            self.assertIs(is_web(web), True)

    def test_no_place_is_a_web(self):
        self.assertIs(is_web(("", ())), True)

    def test_every_small_letter_is_a_kind(self):
        letters = "abcdefghijklmnopqrstuvwxyz"
        self.assertIs(is_web((letters, ())), True)
        for letter in letters:
            self.assertIs(is_web(("aa", ((0, 1, letter),))), True)

    def test_no_other_sign_is_a_kind(self):
        letters = "abcdefghijklmnopqrstuvwxyz"
        for sign in [chr(code) for code in range(32, 127)] + ["\n"]:
            if sign not in letters:
                with self.subTest(sign=sign):
                    self.assertIs(is_web((sign, ())), False)
                    self.assertIs(is_web(("a" + sign, ())), False)
                    self.assertIs(is_web((sign + "a", ())), False)
                    self.assertIs(is_web(("aa", ((0, 1, sign),))), False)

    def test_a_tie_has_one_letter(self):
        self.assert_no_webs({
            "two": ("aa", ((0, 1, "xy"),)),
            "alike": ("aa", ((0, 1, "xx"),)),
            "none": ("aa", ((0, 1, ""),)),
        })

    def test_truths_are_no_places(self):
        self.assert_no_webs({
            "low": ("aa", ((False, 1, "x"),)),
            "high": ("aa", ((0, True, "x"),)),
            "both": ("aa", ((False, True, "x"),)),
            "among": ("aaa", ((0, 1, "x"), (True, 2, "x"))),
        })

    def test_places_are_of_the_web(self):
        self.assert_no_webs({
            "beyond": ("aa", ((0, 2, "x"),)),
            "far beyond": ("aa", ((0, 10 ** 100, "x"),)),
            "below": ("aa", ((-1, 0, "x"),)),
            "both below": ("aa", ((-2, -1, "x"),)),
            "without places": ("", ((0, 1, "x"),)),
            "one place": ("a", ((0, 1, "x"),)),
        })

    def test_place_is_less_than_other(self):
        self.assert_no_webs({
            "alike": ("aa", ((0, 0, "x"),)),
            "alike above": ("aa", ((1, 1, "x"),)),
            "about": ("aa", ((1, 0, "x"),)),
            "about too": ("aa", ((0, 1, "x"), (1, 0, "x"))),
        })

    def test_ties_rise_and_stand_once(self):
        self.assert_no_webs({
            "falling": ("aaa", ((1, 2, "x"), (0, 1, "x"))),
            "falling behind": ("aaa", ((0, 2, "x"), (0, 1, "x"))),
            "falling with kinds": ("aaa", ((0, 2, "a"), (0, 1, "b"))),
            "last ahead": ("aaaa", ((0, 1, "x"), (2, 3, "x"), (1, 2, "x"))),
            "twice": ("aa", ((0, 1, "x"), (0, 1, "x"))),
            "twice of two kinds": ("aa", ((0, 1, "x"), (0, 1, "y"))),
            "twice of falling kinds": ("aa", ((0, 1, "y"), (0, 1, "x"))),
            "twice apart": ("aaa", ((0, 1, "x"), (0, 2, "x"), (0, 1, "x"))),
        })

    def test_ties_rise_by_places_whatever_the_kinds(self):
        self.assertIs(is_web(("aaa", ((0, 1, "z"), (0, 2, "a"), (1, 2, "m")))), True)

    def test_numbers_rise_as_numbers(self):
        self.assertIs(is_web(("a" * 11, ((0, 2, "x"), (0, 10, "x"), (2, 9, "x"), (9, 10, "x")))), True)

    def test_tuples_and_lists_differ(self):
        self.assert_no_webs({
            "web": ["ab", ((0, 1, "x"),)],
            "ties": ("ab", [(0, 1, "x")]),
            "tie": ("ab", ([0, 1, "x"],)),
            "kinds": (("a", "b"), ((0, 1, "x"),)),
            "kinds list": (["a", "b"], ((0, 1, "x"),)),
            "tie kind": ("ab", ((0, 1, ("x",)),)),
            "no ties": ("", []),
            "bare tie": ("ab", (0, 1, "x")),
        })

    def test_lengths(self):
        self.assert_no_webs({
            "empty": (),
            "kinds alone": ("ab",),
            "more": ("ab", ((0, 1, "x"),), ()),
            "empty tie": ("ab", ((),)),
            "short tie": ("ab", ((0, 1),)),
            "long tie": ("ab", ((0, 1, "x", "x"),)),
            "text": "ab",
        })

    def test_odd_things_in_every_seat(self):
        for name, odd in odd_things().items():
            with self.subTest(name=name):
                self.assertIs(is_web(odd), False)
                self.assertIs(is_web((odd, GOOD[1])), False)
                self.assertIs(is_web((odd, ())), False)
                self.assertIs(is_web((GOOD[0], odd)), False)
                self.assertIs(is_web(("", odd)), False)
                self.assertIs(is_web((*GOOD, odd)), False)
                self.assertIs(is_web((GOOD[0], (odd,))), False)
                self.assertIs(is_web((GOOD[0], (odd, *GOOD[1]))), False)
                self.assertIs(is_web((GOOD[0], (*GOOD[1], odd))), False)
                for seat in range(3):
                    tie = list(GOOD[1][0])
                    tie[seat] = odd
                    self.assertIs(is_web((GOOD[0], (tuple(tie),))), False)

    def test_things_that_fit_elsewhere(self):
        for thing in ("ab", "", 0, 1, (0, 1, "x"), ((0, 1, "x"),), [], [GOOD], (GOOD, GOOD)):
            self.assertIs(is_web(thing), False)
            self.assertIs(is_web((thing, thing)), False)

    def test_things_handed_in_stay(self):
        for kind in (list, tuple):
            held = kind([kind([0, 1, "x"])])
            for thing in ([*GOOD], ("ab", held), ("ab", (held,)), held):
                before = repr(thing)
                is_web(thing)
                self.assertEqual(repr(thing), before)

    def test_deep_things_are_told_apart_again(self):
        thing = deep(tuple)
        for _ in range(3):
            self.assertIs(is_web(thing), False)
            self.assertIs(is_web(GOOD), True)


class Ties(unittest.TestCase):
    """[4]"""

    def test_tie_either_way_about(self):
        self.assertEqual(tie_of(MIXED, 0, 1), "x")
        self.assertEqual(tie_of(MIXED, 1, 0), "x")
        self.assertEqual(tie_of(MIXED, 4, 0), "y")
        self.assertEqual(tie_of(MIXED, 2, 5), "z")
        self.assertIsNone(tie_of(MIXED, 0, 2))
        self.assertIsNone(tie_of(MIXED, 2, 0))

    def test_a_place_with_itself_has_none(self):
        for web in all_webs():
            for place in range(len(web[0])):
                self.assertIsNone(tie_of(web, place, place))

    def test_small_webs(self):
        for web in small_webs(3):
            for one in range(len(web[0])):
                for other in range(len(web[0])):
                    self.assertEqual(tie_of(web, one, other), plain_tie(web, one, other))

    def test_every_tie_of_large_webs(self):
        web = full_web("ab" * 20, "xyz")
        for place, other, kind in web[1]:
            self.assertEqual(tie_of(web, place, other), kind)
            self.assertEqual(tie_of(web, other, place), kind)

    def test_neighbours(self):
        self.assertEqual(neighbours(MIXED, 0), [1, 4])
        self.assertEqual(neighbours(MIXED, 4), [0, 1])
        self.assertEqual(neighbours(MIXED, 5), [2])
        self.assertEqual(neighbours(MIXED, 3), [])
        self.assertEqual(neighbours(ALONE, 0), [])

    def test_neighbours_of_all_webs(self):
        for web in all_webs():
            for place in range(len(web[0])):
                ends = [{tie[0], tie[1]} for tie in web[1] if place in tie[:2]]
                wanted = sorted(end for pair in ends for end in pair if end != place)
                told = neighbours(web, place)
                self.assertIs(type(told), list)
                self.assertEqual(told, wanted)

    def test_neighbours_in_a_full_web(self):
        web = full_web("a" * MANY, "t")
        for place in range(MANY):
            self.assertEqual(neighbours(web, place), [end for end in range(MANY) if end != place])

    def test_neighbours_are_the_askers_own(self):
        told = neighbours(MIXED, 0)
        told.append(9)
        told[0] = None
        self.assertEqual(neighbours(MIXED, 0), [1, 4])
        self.assertIsNot(neighbours(MIXED, 3), neighbours(MIXED, 3))


class Parts(unittest.TestCase):
    """[5]"""

    def test_no_place_has_no_part(self):
        self.assertEqual(parts(NOWHERE), [])
        self.assertIs(hangs(NOWHERE), True)

    def test_one_place(self):
        self.assertEqual(parts(ALONE), [[0]])
        self.assertIs(hangs(ALONE), True)

    def test_two_places(self):
        self.assertEqual(parts(("ab", ())), [[0], [1]])
        self.assertIs(hangs(("ab", ())), False)
        self.assertIs(hangs(GOOD), True)

    def test_parts_by_least_places_each_rising(self):
        self.assertEqual(parts(MIXED), [[0, 1, 4], [2, 5], [3]])
        self.assertEqual(parts(("aaaa", ((0, 3, "x"), (1, 2, "y")))), [[0, 3], [1, 2]])
        self.assertEqual(parts(("aaaa", ((0, 3, "x"), (1, 3, "y")))), [[0, 1, 3], [2]])

    def test_all_webs(self):
        for web in all_webs():
            wanted = plain_parts(range(len(web[0])), [tie[:2] for tie in web[1]])
            told = parts(web)
            self.assertIs(type(told), list)
            self.assertEqual(told, wanted)
            self.assertIs(hangs(web), len(wanted) < 2)

    def test_large_rows(self):
        for turned in (False, True):
            self.assertEqual(parts(row_web(MANY, turned)), [list(range(MANY))])
            self.assertIs(hangs(row_web(MANY, turned)), True)

    def test_parts_are_the_askers_own(self):
        told = parts(MIXED)
        told[0].append(9)
        told[1].clear()
        told.pop()
        self.assertEqual(parts(MIXED), [[0, 1, 4], [2, 5], [3]])
        self.assertIs(hangs(MIXED), False)
        parts(NOWHERE).append([0])
        self.assertEqual(parts(NOWHERE), [])
        self.assertIs(hangs(NOWHERE), True)


class Cut(unittest.TestCase):
    """[6]"""

    def plain_cut(self, web, places):
        kept = sorted(places)
        ties = []
        for one in range(len(kept)):
            for other in range(one + 1, len(kept)):
                kind = plain_tie(web, kept[one], kept[other])
                if kind is not None:
                    ties.append((one, other, kind))
        return ("".join(web[0][place] for place in kept), tuple(ties))

    def assert_cut(self, web, places):
        told = cut(web, places)
        self.assertIs(is_web(told), True)
        self.assertEqual(told, self.plain_cut(web, places))

    def test_by_none(self):
        for web in all_webs():
            self.assertEqual(cut(web, []), ("", ()))

    def test_by_all(self):
        for web in all_webs():
            self.assertEqual(cut(web, list(range(len(web[0])))), web)
            self.assertEqual(cut(web, list(range(len(web[0])))[::-1]), web)

    def test_by_some(self):
        self.assertEqual(cut(MIXED, [1, 3, 4]), ("bca", ((0, 2, "x"),)))
        self.assertEqual(cut(MIXED, [0, 1]), ("ab", ((0, 1, "x"),)))
        self.assertEqual(cut(MIXED, [4, 5, 2]), ("aab", ((0, 2, "z"),)))
        self.assertEqual(cut(MIXED, [3]), ("c", ()))

    def test_order_of_the_list_changes_nothing(self):
        for places in ([0, 1, 4], [4, 1, 0], [1, 4, 0], [4, 0, 1]):
            self.assertEqual(cut(MIXED, places), ("aba", ((0, 1, "x"), (0, 2, "y"), (1, 2, "x"))))

    def test_all_choices_of_small_webs(self):
        for web in small_webs(3):
            for chosen in range(2 ** len(web[0])):
                places = [place for place in range(len(web[0])) if chosen >> place & 1]
                self.assert_cut(web, places)
                self.assert_cut(web, places[::-1])

    def test_large_webs(self):
        for web in all_webs():
            places = list(range(len(web[0])))
            self.assert_cut(web, places[::2])
            self.assert_cut(web, places[1::3][::-1])
            self.assert_cut(web, places[-3:] + places[:-3][::4])

    def test_the_list_stays_and_is_not_kept(self):
        places = [4, 0, 1]
        told = cut(MIXED, places)
        self.assertEqual(places, [4, 0, 1])
        places[:] = [2]
        self.assertEqual(told, ("aba", ((0, 1, "x"), (0, 2, "y"), (1, 2, "x"))))
        self.assertEqual(cut(MIXED, places), ("a", ()))


if __name__ == "__main__":
    unittest.main()
