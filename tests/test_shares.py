"""Points [42] to [44], with [1] for them."""

import copy
import functools
import random
import unittest
from fractions import Fraction
from math import gcd

from commonweb.errors import NoWebs, WebError
from commonweb.lying import greatest_lying
from commonweb.sameness import same_lead
from commonweb.shares import distance, joined_size, nearest
from tests.plain import plain_best
from tests.samples import (
    ALONE, MIXED, NOWHERE, chance_web, deep, full_web, near_webs, odd_things, ring_web, row_web, seven_webs, small_webs,
    star_web,
)
from tests.shapes import shuffled


class Text(str):
    pass


class Row(list):
    pass


class Pair(tuple):
    pass


@functools.lru_cache(maxsize=None)
def few_webs():
    chance = random.Random(42)
    told = [NOWHERE, ALONE, ("b", ()), MIXED, row_web(5), ring_web(5), star_web(4), ("aaaaa", ())]
    for many in (2, 3, 4, 5):
        for kinds, tie_kinds in (("a", "t"), ("ab", "t"), ("a", "tu")):
            told.append(chance_web(chance, many, kinds, tie_kinds, chance.choice((2, 5, 8))))
    return told


def far(one, other):
    return Fraction(*distance(one, other))


class Distance(unittest.TestCase):
    """[42], [43]"""

    def assert_distance(self, one, other, wanted):
        told = distance(one, other)
        self.assertEqual(told, wanted, (one, other))
        self.assertEqual([type(told), type(told[0]), type(told[1])], [tuple, int, int])
        self.assertGreaterEqual(told[0], 0)
        self.assertGreaterEqual(told[1], 1)
        self.assertEqual(gcd(*told), 1)

    def test_webs_without_places(self):
        self.assert_distance(NOWHERE, NOWHERE, (0, 1))
        for web in (ALONE, row_web(2), row_web(7), MIXED):
            self.assert_distance(NOWHERE, web, (1, 1))
            self.assert_distance(web, NOWHERE, (1, 1))

    def test_the_same(self):
        chance = random.Random(1)
        for web in seven_webs():
            self.assert_distance(web, web, (0, 1))
            self.assert_distance(web, shuffled(chance, web), (0, 1))

    def test_nothing_in_common(self):
        self.assert_distance(row_web(4), ("bbb", ()), (1, 1))
        self.assert_distance(("b", ()), row_web(7), (1, 1))

    def test_no_common_part(self):
        self.assert_distance(("aaaaaa", ()), ("aaaa", ()), (1, 3))
        self.assert_distance(("aaaa", ()), ("aaaaaa", ()), (1, 3))
        self.assert_distance(("aaaa", ()), ("aa", ()), (1, 2))
        self.assert_distance(("aaaaaa", ()), ("a", ()), (5, 6))
        self.assert_distance(("aaaaaa", ()), ("aa", ()), (2, 3))
        self.assert_distance(full_web("a" * 7, "t"), ("a" * 7, ()), (6, 7))
        self.assert_distance(row_web(7), ring_web(7), (1, 7))
        # By the greater count of places, not by both or the lesser.
        self.assert_distance(row_web(3), row_web(7), (4, 7))

    def test_held_against_all_leads(self):
        for one in few_webs():
            for other in few_webs():
                most = max(len(one[0]), len(other[0]))
                size = plain_best(one, other)["lies", False].size
                wanted = 1 - Fraction(size, most) if most else Fraction(0)
                self.assert_distance(one, other, (wanted.numerator, wanted.denominator))

    def test_the_same_either_way_about(self):
        for one in seven_webs():
            for other in few_webs() + seven_webs():
                self.assertEqual(distance(one, other), distance(other, one))

    def test_it_is_nothing_just_where_they_are_the_same(self):
        chance = random.Random(2)
        for one in few_webs()[1:] + seven_webs():
            for other in [*near_webs(chance, one), shuffled(chance, one)]:
                self.assertEqual(distance(one, other) == (0, 1), same_lead(one, other) is not None)

    def test_by_a_third_web_never_shorter(self):
        webs = few_webs() + small_webs(2, "ab", "t")
        table = {(one, other): far(one, other) for one in webs for other in webs}
        for one in webs:
            for other in webs:
                for third in webs:
                    self.assertGreaterEqual(table[one, third] + table[third, other], table[one, other])


class JoinedSize(unittest.TestCase):
    """[44]"""

    def assert_joined(self, one, other, wanted):
        told = joined_size(one, other)
        self.assertEqual(told, wanted, (one, other))
        self.assertIs(type(told), int)

    def test_some(self):
        self.assert_joined(NOWHERE, NOWHERE, 0)
        self.assert_joined(NOWHERE, row_web(7), 7)
        self.assert_joined(row_web(7), row_web(7), 7)
        self.assert_joined(row_web(7), ring_web(7), 8)
        self.assert_joined(row_web(7), ("b" * 7, ()), 14)
        self.assert_joined(row_web(3), row_web(7), 7)

    def test_held_against_all_leads(self):
        for one in few_webs():
            for other in few_webs():
                size = plain_best(one, other)["lies", False].size
                self.assert_joined(one, other, len(one[0]) + len(other[0]) - size)

    def test_seven_places(self):
        for one in seven_webs():
            for other in seven_webs():
                self.assert_joined(one, other, 14 - greatest_lying(one, other)[0])


class Nearest(unittest.TestCase):
    """[44]"""

    def assert_nearest(self, web, webs, wanted):
        before = copy.deepcopy(webs)
        told = nearest(web, webs)
        self.assertEqual(told, wanted, (web, webs))
        self.assertIs(type(told), int)
        self.assertEqual(webs, before)

    def test_one_web(self):
        self.assert_nearest(NOWHERE, [NOWHERE], 0)
        self.assert_nearest(row_web(7), [NOWHERE], 0)
        self.assert_nearest(NOWHERE, [row_web(7)], 0)

    def test_some(self):
        row, ring, star = row_web(7), ring_web(7), star_web(7)
        self.assert_nearest(row, [star, ring, row], 2)
        self.assert_nearest(row, [star, ring, NOWHERE], 1)
        self.assert_nearest(NOWHERE, [row, ring, NOWHERE, star], 2)
        self.assert_nearest(row, [NOWHERE] * 7 + [ALONE], 7)

    def test_the_first_of_those_alike(self):
        row, ring, star = row_web(7), ring_web(7), star_web(7)
        self.assert_nearest(row, [star, ring, ring, shuffled(random.Random(4), ring), NOWHERE], 1)
        self.assert_nearest(row, [row] * 8, 0)
        self.assert_nearest(("b", ()), [row, ring, star], 0)
        # Four out of six and two out of three are one distance.
        self.assert_nearest(("aa", ()), [("a" * 6, ()), ("aabbbb", ()), ("aab", ())], 2)
        self.assert_nearest(("aaaa", ()), [("a" * 6, ()), ("aaabbb", ()), ("aaa", ((0, 1, "t"),))], 0)
        self.assert_nearest(("aaaaaa", ()), [("aaaabb", ()), ("aaaa", ()), ("aaaabb", ())], 0)

    def test_distances_not_sizes(self):
        # The second has the greater piece, the first one is nearer.
        self.assert_nearest(("aab", ()), [("aa", ()), ("aabcccc", ())], 0)
        self.assert_nearest(("aab", ()), [("aabcccc", ()), ("aa", ())], 1)

    def test_held_against_distances(self):
        chance = random.Random(3)
        webs = few_webs() + seven_webs()
        for _ in range(120):
            web = chance.choice(webs)
            others = [chance.choice(webs) for _ in range(chance.randrange(1, 9))]
            told = [far(web, other) for other in others]
            self.assert_nearest(web, others, told.index(min(told)))

    def refuse(self, thing):
        with self.assertRaises(NoWebs):
            nearest(row_web(3), thing)

    def test_no_such_list(self):
        self.assertTrue(issubclass(NoWebs, WebError))
        row = row_web(3)
        self.refuse([])
        self.refuse([row] * 9)
        self.refuse([row] * 100)
        self.refuse((row, row))
        self.refuse(row)
        self.refuse(())
        self.refuse({0: row})
        self.refuse({row})
        self.refuse(Row([row]))
        self.refuse(iter([row]))
        self.refuse([[row]])
        self.refuse([list(row)])
        self.refuse([Pair(row)])
        self.refuse([("aaa", Pair(row[1]))])
        self.refuse([(Text("aaa"), row[1])])
        self.refuse([("aaa", tuple(reversed(row[1])))])
        self.refuse([("aa", row[1])])
        self.refuse([("AAA", row[1])])
        self.refuse([("aaa", ((True, 2, "t"),))])

    def test_no_such_list_of_anything(self):
        row = row_web(3)
        for name, thing in odd_things().items():
            with self.subTest(name=name):
                self.refuse(thing)
                for at in range(3):
                    webs = [row] * 2
                    webs.insert(at, thing)
                    self.refuse(webs)
                self.refuse([row] * 7 + [thing])
                self.refuse([("aaa", thing)])
                self.refuse([(thing, ())])
                self.refuse([("aaa", (thing,))])

    def test_thousands_deep(self):
        row = row_web(3)
        for kind in (list, tuple):
            self.refuse(deep(kind, 5000))
            self.refuse([row, deep(kind, 5000)])
            self.refuse([row, ("aaa", deep(kind, 5000))])
            self.refuse([row, ("aaa", ((0, 1, deep(kind, 5000)),))])

    def test_the_list_is_not_kept(self):
        row, ring = row_web(7), ring_web(7)
        webs = [ring, row]
        self.assert_nearest(row, webs, 1)
        webs.reverse()
        self.assert_nearest(row, webs, 0)


if __name__ == "__main__":
    unittest.main()
