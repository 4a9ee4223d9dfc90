"""Points [16] and [17], with [1] and [2] for them."""

import random
import unittest

from commonweb.byties import greatest_by_ties
from commonweb.leads import is_lead, is_piece, size_of
from commonweb.lying import greatest_lying
from commonweb.together import together_by_ties, together_lying
from tests.plain import plain_best, plain_cases
from tests.samples import (
    ALONE, NOWHERE, chance_web, full_web, near_webs, renamed, ring_web, row_web, seven_webs, star_web,
)

STRAIGHT = [(place, place) for place in range(7)]
ASKED = {"lies": (together_lying, greatest_lying), "ties": (together_by_ties, greatest_by_ties)}


class Together(unittest.TestCase):
    def assert_together(self, how, one, other, size, lead):
        told = ASKED[how][0](one, other)
        self.assertIs(type(told), tuple)
        self.assertEqual(told, (size, lead))
        self.assertEqual([type(told[0]), type(told[1])], [int, list])

    def hold_against_all_leads(self, how):
        less = 0
        for one, other in plain_cases():
            best = plain_best(one, other)[how, True]
            self.assertEqual(ASKED[how][0](one, other), (best.size, best.lead), (one, other))
            less += best.size < plain_best(one, other)[how, False].size
        self.assertGreater(less, 40)

    def ask_webs_of_seven_places(self, how):
        asked, whether_or_not = ASKED[how]
        for one in seven_webs():
            for other in seven_webs():
                size, lead = asked(one, other)
                self.assertTrue(is_lead(one, other, lead))
                self.assertTrue(is_piece(one, other, lead, how, True))
                self.assertEqual(size_of(one, other, lead, how), size)
                self.assertEqual(asked(other, one)[0], size)
                greatest = whether_or_not(one, other)
                self.assertLessEqual(size, greatest[0])
                if is_piece(one, other, greatest[1], how, True):
                    self.assertEqual((size, lead), greatest)

    def call_places_otherwise(self, how):
        chance = random.Random(6)
        asked = ASKED[how][0]
        for kinds, share in (("a", 3), ("a", 6), ("aab", 5)):
            one = chance_web(chance, 7, kinds, "tu", share)
            for other in near_webs(chance, one):
                again = renamed(other, chance.sample(range(len(other[0])), len(other[0])))
                self.assertEqual(asked(one, again)[0], asked(one, other)[0])

    def change_told_leads(self, how):
        asked = ASKED[how][0]
        for one, other in ((row_web(7), ring_web(7)), (NOWHERE, NOWHERE), (row_web(2), row_web(2))):
            before = repr((one, other))
            size, lead = asked(one, other)
            wanted = list(lead)
            lead.append((0, 0))
            lead[0] = None
            self.assertEqual(asked(one, other), (size, wanted))
            self.assertIsNot(asked(one, other)[1], asked(one, other)[1])
            self.assertEqual(repr((one, other)), before)


class TogetherLying(Together):
    """[16]"""

    def test_edges(self):
        for one, other in ((NOWHERE, NOWHERE), (NOWHERE, row_web(7)), (row_web(7), NOWHERE)):
            self.assert_together("lies", one, other, 0, [])
        self.assert_together("lies", row_web(7), ("bcd", ()), 0, [])
        self.assert_together("lies", ALONE, ALONE, 1, [(0, 0)])

    def test_a_single_pair_hangs_together(self):
        self.assert_together("lies", ("a" * 7, ()), ("a" * 7, ()), 1, [(0, 0)])
        self.assert_together("lies", ("ba", ()), ("aab", ()), 1, [(0, 2)])
        self.assert_together("lies", row_web(7), ("a" * 7, ()), 1, [(0, 0)])
        self.assert_together("lies", row_web(7), full_web("a" * 7, "u"), 1, [(0, 0)])

    def test_the_greatest_one_may_not_hang_together(self):
        one = ("aaaaa", ((0, 1, "x"), (3, 4, "x")))
        self.assert_together("lies", one, ("aaaa", ((0, 1, "x"), (2, 3, "x"))), 2, [(0, 0), (1, 1)])
        # As it lies the outer places of the row would be more than its ties.
        self.assert_together("lies", star_web(7), ("a" * 6, ((4, 5, "t"),)), 2, [(0, 4), (1, 5)])

    def test_hanging_together_is_by_places_of_the_piece_alone(self):
        one = ("aba", ((0, 1, "x"), (1, 2, "x")))
        self.assert_together("lies", one, ("aa", ()), 1, [(0, 0)])
        self.assert_together("lies", one, ("aac", ((0, 2, "x"), (1, 2, "x"))), 1, [(0, 0)])

    def test_seven_places(self):
        full, row, ring = full_web("a" * 7, "t"), row_web(7), ring_web(7)
        for web in (full, row, ring, row_web(7, turned=True), star_web(7)):
            self.assert_together("lies", web, web, 7, STRAIGHT)
        self.assert_together("lies", row, ring, 6, STRAIGHT[:6])
        self.assert_together("lies", ring, row, 6, STRAIGHT[:6])
        self.assert_together("lies", full, ring, 2, STRAIGHT[:2])
        self.assert_together("lies", star_web(7), ring, 3, [(0, 0), (1, 1), (2, 6)])

    def test_held_against_all_leads(self):
        self.hold_against_all_leads("lies")

    def test_many_webs_of_seven_places(self):
        self.ask_webs_of_seven_places("lies")

    def test_names_of_places_change_no_size(self):
        self.call_places_otherwise("lies")

    def test_told_leads_are_the_askers_own(self):
        self.change_told_leads("lies")


class TogetherByTies(Together):
    """[17]"""

    def test_edges(self):
        for one, other in ((NOWHERE, NOWHERE), (NOWHERE, row_web(7)), (row_web(7), NOWHERE)):
            self.assert_together("ties", one, other, 0, [])
        self.assert_together("ties", row_web(7), ("bcd", ()), 0, [])
        self.assert_together("ties", ALONE, ALONE, 0, [])
        self.assert_together("ties", ("a" * 7, ()), ("a" * 7, ()), 0, [])
        self.assert_together("ties", row_web(7), full_web("a" * 7, "u"), 0, [])

    def test_the_greatest_one_may_not_hang_together(self):
        one = ("aaaaa", ((0, 1, "x"), (3, 4, "x")))
        self.assert_together("ties", one, ("aaaa", ((0, 1, "x"), (2, 3, "x"))), 1, [(0, 0), (1, 1)])
        triangles = ("aaaaaaa", ((0, 1, "x"), (0, 2, "x"), (1, 2, "x"), (3, 4, "x"), (3, 5, "x"), (4, 5, "x")))
        self.assert_together("ties", triangles, triangles, 3, [(0, 0), (1, 1), (2, 2)])

    def test_hanging_together_is_by_led_ties_alone(self):
        # The middle tie hangs the first web together, but is of another kind in the second.
        one = ("aaaa", ((0, 1, "x"), (1, 2, "x"), (2, 3, "x")))
        other = ("aaaa", ((0, 1, "x"), (1, 2, "y"), (2, 3, "x")))
        self.assert_together("ties", one, other, 1, [(0, 0), (1, 1)])
        # Here the second web hangs together, the first one does not.
        self.assert_together("ties", ("aaaa", ((0, 1, "x"), (2, 3, "x"))), one, 1, [(0, 0), (1, 1)])

    def test_a_place_that_wants_a_tie_is_not_led(self):
        # Place 0 could be led with place 4, but hangs by no led tie on the others.
        one = ("aaaaa", ((0, 4, "t"), (1, 2, "t"), (2, 3, "t"), (3, 4, "u")))
        other = ("aaaaa", ((0, 4, "t"), (1, 2, "t"), (2, 3, "t"), (3, 4, "v")))
        self.assert_together("ties", one, other, 2, [(1, 1), (2, 2), (3, 3)])

    def test_two_groups_that_either_one_place_more_could_join(self):
        # Place 6 is tied with both triangles of the first web; of the second one each has a
        # neighbour of its own. (One place more than the seven that are promised.)
        triangles = ((0, 1, "t"), (0, 2, "t"), (1, 2, "t"), (3, 4, "t"), (3, 5, "t"), (4, 5, "t"))
        one = ("a" * 7, tuple(sorted([*triangles, (0, 6, "t"), (3, 6, "t")])))
        other = ("a" * 8, tuple(sorted([*triangles, (0, 6, "t"), (3, 7, "t"), (6, 7, "u")])))
        self.assert_together("ties", one, other, 4, [(0, 0), (1, 1), (2, 2), (6, 6)])

    def test_the_first_one_may_be_of_a_later_part(self):
        one = ("aabab", ((0, 2, "x"), (1, 4, "x"), (3, 4, "x")))
        other = ("baa", ((0, 1, "x"), (0, 2, "x")))
        self.assert_together("ties", one, other, 2, [(1, 1), (3, 2), (4, 0)])
        # Part and part of both webs are alike: first comes the lesser place of the second one.
        twice = ("aaaa", ((0, 3, "x"), (1, 2, "x")))
        self.assert_together("ties", twice, twice, 1, [(0, 0), (3, 3)])
        self.assert_together("ties", ("caa", ((1, 2, "x"),)), twice, 1, [(1, 0), (2, 3)])

    def test_seven_places(self):
        full, row, ring = full_web("a" * 7, "t"), row_web(7), ring_web(7)
        for web in (full, row, ring, row_web(7, turned=True), star_web(7)):
            self.assert_together("ties", web, web, len(web[1]), STRAIGHT)
        self.assert_together("ties", row, ring, 6, STRAIGHT)
        self.assert_together("ties", ring, full, 7, STRAIGHT)
        self.assert_together("ties", star_web(7), ring, 2, [(0, 0), (1, 1), (2, 6)])

    def test_held_against_all_leads(self):
        self.hold_against_all_leads("ties")

    def test_many_webs_of_seven_places(self):
        self.ask_webs_of_seven_places("ties")

    def test_names_of_places_change_no_size(self):
        self.call_places_otherwise("ties")

    def test_told_leads_are_the_askers_own(self):
        self.change_told_leads("ties")


if __name__ == "__main__":
    unittest.main()
