"""Points [12] and [13], with [1] and [2] for them."""

import random
import unittest

from commonweb.leads import is_lead, is_piece, size_of
from commonweb.lying import count_lying, greatest_lying
from tests.plain import plain_best, plain_cases
from tests.samples import (
    ALONE, NOWHERE, chance_web, full_web, near_webs, renamed, ring_web, row_web, seven_webs, star_web,
)

STRAIGHT = [(place, place) for place in range(7)]


class Greatest(unittest.TestCase):
    """[12], [13]"""

    def assert_greatest(self, one, other, size, lead, many):
        told = greatest_lying(one, other)
        self.assertIs(type(told), tuple)
        self.assertEqual(told, (size, lead))
        self.assertEqual([type(told[0]), type(told[1])], [int, list])
        count = count_lying(one, other)
        self.assertEqual(count, many)
        self.assertIs(type(count), int)

    def test_without_a_pair(self):
        for one, other in ((NOWHERE, NOWHERE), (NOWHERE, row_web(7)), (row_web(7), NOWHERE)):
            self.assert_greatest(one, other, 0, [], 1)
        self.assert_greatest(("aaaaaaa", ()), ("bbbbbbb", ()), 0, [], 1)
        self.assert_greatest(("abc", ((0, 1, "x"),)), ("defg", ()), 0, [], 1)

    def test_single_pairs(self):
        self.assert_greatest(ALONE, ALONE, 1, [(0, 0)], 1)
        self.assert_greatest(ALONE, ("bab", ()), 1, [(0, 1)], 1)
        self.assert_greatest(("ba", ((0, 1, "x"),)), ("aa", ()), 1, [(1, 0)], 2)

    def test_ties_of_like_kinds_or_none(self):
        tied, bare = ("aa", ((0, 1, "x"),)), ("aa", ())
        self.assert_greatest(tied, tied, 2, [(0, 0), (1, 1)], 2)
        self.assert_greatest(bare, bare, 2, [(0, 0), (1, 1)], 2)
        self.assert_greatest(tied, bare, 1, [(0, 0)], 4)
        self.assert_greatest(bare, tied, 1, [(0, 0)], 4)
        self.assert_greatest(tied, ("aa", ((0, 1, "y"),)), 1, [(0, 0)], 4)

    def test_the_first_one_leaves_a_place_out_late(self):
        # The row's middle may stand for no place of the two that are not tied.
        self.assert_greatest(row_web(3), ("aa", ()), 2, [(0, 0), (2, 1)], 2)
        self.assert_greatest(("aa", ()), row_web(3), 2, [(0, 0), (1, 2)], 2)
        self.assert_greatest(star_web(4), ("aaa", ()), 3, [(1, 0), (2, 1), (3, 2)], 6)

    def test_hanging_together_or_not(self):
        one = ("aaaaa", ((0, 1, "x"), (3, 4, "x")))
        other = ("aaaa", ((0, 1, "x"), (2, 3, "x")))
        self.assert_greatest(one, other, 4, [(0, 0), (1, 1), (3, 2), (4, 3)], 8)

    def test_webs_with_themselves(self):
        for web, many in (
            (("aaaaaaa", ()), 5040), (full_web("a" * 7, "t"), 5040), (row_web(7), 2), (ring_web(7), 14),
            (star_web(7), 720), (full_web("abcdefg", "tuv"), 1), (("aabbccc", ()), 24),
        ):
            self.assert_greatest(web, web, 7, STRAIGHT, many)

    def test_seven_places(self):
        bare, full, row, ring = ("aaaaaaa", ()), full_web("a" * 7, "t"), row_web(7), ring_web(7)
        self.assert_greatest(bare, full, 1, [(0, 0)], 49)
        self.assert_greatest(full, bare, 1, [(0, 0)], 49)
        self.assert_greatest(row, full, 2, [(0, 0), (1, 1)], 6 * 42)
        self.assert_greatest(full, ring, 2, [(0, 0), (1, 1)], 7 * 42)
        self.assert_greatest(row, bare, 4, [(0, 0), (2, 1), (4, 2), (6, 3)], 840)
        self.assert_greatest(bare, ring, 3, [(0, 0), (1, 2), (2, 4)], 7 * 210)
        self.assert_greatest(row, ring, 6, [(0, 0), (1, 1), (2, 2), (3, 3), (4, 4), (5, 5)], 28)
        self.assert_greatest(star_web(7), bare, 6, [(place, place - 1) for place in range(1, 7)], 5040)

    def test_held_against_all_leads(self):
        sizes = {}
        for one, other in plain_cases():
            best = plain_best(one, other)["lies", False]
            self.assertEqual(greatest_lying(one, other), (best.size, best.lead), (one, other))
            self.assertEqual(count_lying(one, other), best.many, (one, other))
            sizes[best.size] = sizes.get(best.size, 0) + 1
        self.assertEqual(sorted(sizes), [0, 1, 2, 3, 4, 5, 6, 7])

    def test_many_webs_of_seven_places(self):
        for one in seven_webs():
            for other in seven_webs():
                size, lead = greatest_lying(one, other)
                self.assertTrue(is_lead(one, other, lead))
                self.assertTrue(is_piece(one, other, lead, "lies", False))
                self.assertEqual(size_of(one, other, lead, "lies"), size)
                self.assertEqual(greatest_lying(other, one)[0], size)
                self.assertEqual(count_lying(other, one), count_lying(one, other))

    def test_names_of_places_change_no_size(self):
        chance = random.Random(6)
        for kinds, share in (("a", 3), ("a", 6), ("aab", 5)):
            one = chance_web(chance, 7, kinds, "tu", share)
            for other in near_webs(chance, one):
                told = greatest_lying(one, other)
                self.assertGreaterEqual(told[0], 4)
                again = renamed(other, chance.sample(range(len(other[0])), len(other[0])))
                self.assertEqual(greatest_lying(one, again)[0], told[0])
                self.assertEqual(count_lying(one, again), count_lying(one, other))

    def test_told_leads_are_the_askers_own(self):
        for one, other in ((row_web(7), ring_web(7)), (NOWHERE, NOWHERE), (ALONE, ALONE)):
            before = repr((one, other))
            size, lead = greatest_lying(one, other)
            wanted = list(lead)
            lead.append((0, 0))
            lead[0] = None
            self.assertEqual(greatest_lying(one, other), (size, wanted))
            self.assertIsNot(greatest_lying(one, other)[1], greatest_lying(one, other)[1])
            self.assertEqual(repr((one, other)), before)


if __name__ == "__main__":
    unittest.main()
