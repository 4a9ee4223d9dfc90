"""Points [14] and [15], with [1] and [2] for them."""

import random
import unittest

from commonweb.byties import count_by_ties, greatest_by_ties
from commonweb.leads import is_lead, is_piece, size_of
from tests.plain import plain_best, plain_cases
from tests.samples import (
    ALONE, NOWHERE, chance_web, full_web, near_webs, renamed, ring_web, row_web, seven_webs, star_web,
)

STRAIGHT = [(place, place) for place in range(7)]


class Greatest(unittest.TestCase):
    """[14], [15]"""

    def assert_greatest(self, one, other, size, lead, many):
        told = greatest_by_ties(one, other)
        self.assertIs(type(told), tuple)
        self.assertEqual(told, (size, lead))
        self.assertEqual([type(told[0]), type(told[1])], [int, list])
        count = count_by_ties(one, other)
        self.assertEqual(count, many)
        self.assertIs(type(count), int)

    def test_no_led_tie(self):
        for one, other in ((NOWHERE, NOWHERE), (NOWHERE, row_web(7)), (row_web(7), NOWHERE), (ALONE, ALONE)):
            self.assert_greatest(one, other, 0, [], 1)
        tied = full_web("a" * 7, "t")
        self.assert_greatest(tied, full_web("b" * 7, "t"), 0, [], 1)
        self.assert_greatest(tied, full_web("a" * 7, "u"), 0, [], 1)
        self.assert_greatest(tied, ("a" * 7, ()), 0, [], 1)
        self.assert_greatest(("a" * 7, ()), tied, 0, [], 1)
        self.assert_greatest(("a" * 7, ()), ("a" * 7, ()), 0, [], 1)
        # Ties of one kind between places of other kinds.
        self.assert_greatest(("aab", ((0, 1, "x"),)), ("aab", ((0, 2, "x"),)), 0, [], 1)

    def test_one_tie(self):
        tied = ("aa", ((0, 1, "x"),))
        self.assert_greatest(tied, tied, 1, [(0, 0), (1, 1)], 2)
        self.assert_greatest(("ab", ((0, 1, "x"),)), ("ba", ((0, 1, "x"),)), 1, [(0, 1), (1, 0)], 1)
        self.assert_greatest(tied, full_web("a" * 7, "x"), 1, [(0, 0), (1, 1)], 42)
        self.assert_greatest(full_web("a" * 7, "x"), tied, 1, [(0, 0), (1, 1)], 42)

    def test_places_on_no_led_tie_are_not_led(self):
        one = ("aaaa", ((1, 3, "x"),))
        self.assert_greatest(one, ("aaaa", ((0, 2, "x"),)), 1, [(1, 0), (3, 2)], 2)
        self.assert_greatest(one, one, 1, [(1, 1), (3, 3)], 2)

    def test_a_piece_need_not_lie(self):
        self.assert_greatest(row_web(3), full_web("aaa", "t"), 2, [(0, 0), (1, 1), (2, 2)], 6)
        self.assert_greatest(full_web("aaa", "t"), row_web(3), 2, [(0, 0), (1, 1), (2, 2)], 6)

    def test_pieces_of_fewer_and_more_places(self):
        # Two ties side by side, or two apart: of the lists alike in size the first one.
        one = ("aaaaa", ((0, 1, "x"), (1, 2, "x"), (3, 4, "x")))
        other = ("aaaa", ((0, 1, "x"), (2, 3, "x")))
        self.assert_greatest(one, other, 2, [(0, 0), (1, 1), (3, 2), (4, 3)], 16)
        other = ("aaaaaaa", ((0, 1, "x"), (1, 2, "x"), (3, 4, "x"), (5, 6, "x")))
        self.assert_greatest(("aaaaaa", ((0, 1, "x"), (1, 2, "x"))), other, 2, [(0, 0), (1, 1), (2, 2)], 2)
        three = ("aaaaaa", ((0, 1, "x"), (2, 3, "x"), (4, 5, "x")))
        self.assert_greatest(three, ("aaaa", ((0, 1, "x"), (1, 2, "x"), (2, 3, "x"))), 2,
                             [(0, 0), (1, 1), (2, 2), (3, 3)], 24)

    def test_webs_with_themselves(self):
        for web, size, many in (
            (full_web("a" * 7, "t"), 21, 5040), (row_web(7), 6, 2), (ring_web(7), 7, 14), (star_web(7), 6, 720),
            (full_web("abcdefg", "tuv"), 21, 1),
        ):
            self.assert_greatest(web, web, size, STRAIGHT, many)

    def test_seven_places(self):
        full, row, ring, star = full_web("a" * 7, "t"), row_web(7), ring_web(7), star_web(7)
        self.assert_greatest(full, row, 6, STRAIGHT, 5040)
        self.assert_greatest(row, full, 6, STRAIGHT, 5040)
        self.assert_greatest(ring, full, 7, STRAIGHT, 5040)
        self.assert_greatest(star, full, 6, STRAIGHT, 5040)
        self.assert_greatest(row, ring, 6, STRAIGHT, 14)
        self.assert_greatest(ring, row, 6, STRAIGHT, 14)
        self.assert_greatest(star, row, 2, [(0, 1), (1, 0), (2, 2)], 5 * 30)
        self.assert_greatest(star, ring, 2, [(0, 0), (1, 1), (2, 6)], 7 * 30)

    def test_held_against_all_leads(self):
        sizes = {}
        for one, other in plain_cases():
            best = plain_best(one, other)["ties", False]
            self.assertEqual(greatest_by_ties(one, other), (best.size, best.lead), (one, other))
            self.assertEqual(count_by_ties(one, other), best.many, (one, other))
            sizes[best.size] = sizes.get(best.size, 0) + 1
        self.assertEqual(sorted(sizes)[:10], [0, 1, 2, 3, 4, 5, 6, 7, 8, 9])

    def test_many_webs_of_seven_places(self):
        for one in seven_webs():
            for other in seven_webs():
                size, lead = greatest_by_ties(one, other)
                self.assertTrue(is_lead(one, other, lead))
                self.assertTrue(is_piece(one, other, lead, "ties", False))
                self.assertEqual(size_of(one, other, lead, "ties"), size)
                self.assertEqual(greatest_by_ties(other, one)[0], size)
                self.assertEqual(count_by_ties(other, one), count_by_ties(one, other))

    def test_names_of_places_change_no_size(self):
        chance = random.Random(6)
        for kinds, share in (("a", 3), ("a", 6), ("aab", 5)):
            one = chance_web(chance, 7, kinds, "tu", share)
            for other in near_webs(chance, one):
                told = greatest_by_ties(one, other)
                again = renamed(other, chance.sample(range(len(other[0])), len(other[0])))
                self.assertEqual(greatest_by_ties(one, again)[0], told[0])
                self.assertEqual(count_by_ties(one, again), count_by_ties(one, other))

    def test_told_leads_are_the_askers_own(self):
        for one, other in ((row_web(7), ring_web(7)), (NOWHERE, NOWHERE), (row_web(2), row_web(2))):
            before = repr((one, other))
            size, lead = greatest_by_ties(one, other)
            wanted = list(lead)
            lead.append((0, 0))
            lead[0] = None
            self.assertEqual(greatest_by_ties(one, other), (size, wanted))
            self.assertIsNot(greatest_by_ties(one, other)[1], greatest_by_ties(one, other)[1])
            self.assertEqual(repr((one, other)), before)


if __name__ == "__main__":
    unittest.main()
