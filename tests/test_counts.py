"""Points [18] to [21], and [1] as far as bounds go."""

import random
import unittest
from collections import Counter

from commonweb.counts import by_degrees, by_kinds, by_tie_kinds, ties_bound
from tests.plain import plain_best, plain_cases
from tests.samples import (
    ALONE, LETTERS, MANY, NOWHERE, all_webs, chance_web, full_web, near_webs, ring_web, row_web, small_webs,
    star_web,
)


def plain_by_kinds(one, other):
    return sum(min(one[0].count(letter), other[0].count(letter)) for letter in LETTERS)


def plain_letters(web):
    return Counter((kind, *sorted([web[0][place], web[0][other]])) for place, other, kind in web[1])


def plain_by_tie_kinds(one, other):
    return sum((plain_letters(one) & plain_letters(other)).values())


def plain_by_degrees(one, other):
    told = 0
    for letter in LETTERS:
        rows = []
        for kinds, ties in (one, other):
            places = [place for place in range(len(kinds)) if kinds[place] == letter]
            rows.append(sorted((sum(place in tie[:2] for tie in ties) for place in places), reverse=True))
        told += sum(min(two) for two in zip(*rows))
    return told // 2


class Bounds(unittest.TestCase):
    def assert_bounds(self, one, other, kinds, tie_kinds, degrees):
        wanted = [kinds, tie_kinds, degrees, min(tie_kinds, degrees)]
        for first, second in ((one, other), (other, one)):
            told = [asked(first, second) for asked in (by_kinds, by_tie_kinds, by_degrees, ties_bound)]
            self.assertEqual(told, wanted)
            self.assertEqual([type(number) for number in told], [int] * 4)

    def test_without_places(self):
        for other in (NOWHERE, ALONE, row_web(MANY), full_web("a" * MANY, "t")):
            self.assert_bounds(NOWHERE, other, 0, 0, 0)

    def test_kinds(self):
        """[18]"""
        self.assert_bounds(("aabbc", ()), ("abbbd", ()), 3, 0, 0)
        self.assert_bounds(("abc", ()), ("def", ()), 0, 0, 0)
        self.assert_bounds(("abc", ()), ("cab", ()), 3, 0, 0)
        self.assert_bounds(("a" * MANY, ()), ("a" * 39 + "b", ()), 39, 0, 0)

    def test_tie_kinds(self):
        """[19]"""
        one = ("abab", ((0, 1, "x"), (0, 2, "x"), (2, 3, "x")))
        # The three letters are the same whichever of the two places is first.
        self.assert_bounds(one, ("baab", ((0, 1, "x"), (0, 2, "x"))), 4, 2, 1)
        self.assert_bounds(one, ("baab", ((0, 1, "y"), (0, 2, "x"))), 4, 1, 1)
        self.assert_bounds(one, ("aabb", ((0, 1, "x"), (2, 3, "x"))), 4, 1, 2)
        self.assert_bounds(one, ("aabb", ((0, 1, "y"), (2, 3, "x"))), 4, 0, 2)
        # Kinds of ties and of places don't stand for one another.
        self.assert_bounds(("ab", ((0, 1, "x"),)), ("ax", ((0, 1, "b"),)), 1, 0, 0)

    def test_degrees(self):
        """[20]"""
        row, ring, star, full = row_web(7), ring_web(7), star_web(7), full_web("a" * 7, "t")
        self.assert_bounds(row, ring, 7, 6, 6)
        self.assert_bounds(star, ring, 7, 6, 4)
        self.assert_bounds(star, row, 7, 6, 4)
        self.assert_bounds(star, full, 7, 6, 6)
        self.assert_bounds(ring, full, 7, 7, 7)
        self.assert_bounds(("ab", ((0, 1, "x"),)), ("ac", ((0, 1, "x"),)), 1, 0, 0)
        # Degrees count ties of all kinds.
        self.assert_bounds(row, (row[0], tuple((*tie[:2], "u") for tie in row[1])), 7, 0, 6)

    def test_a_half_is_left_out(self):
        """[20]"""
        # The degrees in common are 2 + 1 in the first two, 3 in the last one.
        self.assert_bounds(("aab", ((0, 1, "x"), (1, 2, "x"))), ("aac", ((0, 1, "x"), (1, 2, "x"))), 2, 1, 1)
        one = ("abc", ((0, 1, "x"), (0, 2, "x")))
        self.assert_bounds(one, ("abd", ((0, 1, "x"), (0, 2, "x"))), 2, 1, 1)
        self.assert_bounds(one, ("abbd", ((0, 1, "x"), (1, 2, "x"), (2, 3, "x"))), 2, 1, 1)
        self.assert_bounds(star_web(4), ("aaa", ((0, 1, "t"), (0, 2, "t"))), 3, 2, 2)
        self.assert_bounds(star_web(4), ("aaaa", ((0, 1, "t"), (2, 3, "t"))), 4, 2, 2)
        self.assert_bounds(("abcd", ((0, 1, "x"), (0, 2, "x"), (0, 3, "x"))),
                           ("aeff", ((0, 1, "x"), (0, 2, "x"), (0, 3, "x"))), 1, 0, 1)

    def test_either_bound_may_be_the_lesser_one(self):
        """[21]"""
        told = {True: 0, False: 0}
        chance = random.Random(4)
        for _ in range(300):
            one = chance_web(chance, 12, "ab", "tu", chance.randrange(1, 9))
            other = chance_web(chance, 12, "ab", "tu", chance.randrange(1, 9))
            ties, degrees = by_tie_kinds(one, other), by_degrees(one, other)
            self.assertEqual(ties_bound(one, other), min(ties, degrees))
            if ties != degrees:
                told[ties < degrees] += 1
        self.assertGreater(min(told.values()), 10)

    def test_forty_places(self):
        full = full_web("a" * MANY, "t")
        self.assert_bounds(full, full, 40, 780, 780)
        self.assert_bounds(full, row_web(MANY), 40, 39, 39)
        self.assert_bounds(full, star_web(MANY), 40, 39, 39)
        self.assert_bounds(row_web(MANY, turned=True), star_web(MANY), 40, 39, 20)
        self.assert_bounds(("a" * MANY, ()), full, 40, 0, 0)

    def test_all_webs(self):
        webs = [*small_webs(2), *all_webs()[-80::3]]
        for one in webs:
            for other in webs[::3]:
                self.assert_bounds(one, other, plain_by_kinds(one, other), plain_by_tie_kinds(one, other),
                                   plain_by_degrees(one, other))

    def test_near_webs(self):
        chance = random.Random(9)
        for many in (3, 7, 20, MANY):
            for tie_kinds in ("t", "tuv"):
                one = chance_web(chance, many, "abc", tie_kinds, 4)
                for other in near_webs(chance, one):
                    self.assert_bounds(one, other, plain_by_kinds(one, other), plain_by_tie_kinds(one, other),
                                       plain_by_degrees(one, other))

    def test_no_piece_is_greater(self):
        met = {"kinds": 0, "ties": 0}
        for one, other in plain_cases():
            best = plain_best(one, other)
            self.assertLessEqual(best["lies", False].size, by_kinds(one, other))
            self.assertLessEqual(best["ties", False].size, by_tie_kinds(one, other))
            self.assertLessEqual(best["ties", False].size, by_degrees(one, other))
            self.assertLessEqual(best["ties", False].size, ties_bound(one, other))
            met["kinds"] += best["lies", False].size == by_kinds(one, other)
            met["ties"] += best["ties", False].size == ties_bound(one, other)
        self.assertGreater(min(met.values()), 500)

    def test_webs_stay(self):
        one, other = row_web(7), full_web("ab" * 3, "tu")
        before = repr((one, other))
        for _ in range(2):
            self.assert_bounds(one, other, 3, 1, 3)
        self.assertEqual(repr((one, other)), before)


if __name__ == "__main__":
    unittest.main()
