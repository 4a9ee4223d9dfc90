"""Points [45] and [46], with [1] for them."""

import copy
import random
import unittest
from itertools import combinations, permutations

from commonweb.errors import NoWebs, WebError
from commonweb.lying import greatest_lying
from commonweb.several import common_of
from tests.plain import plain_lies
from tests.samples import (
    ALONE, NOWHERE, chance_web, deep, full_web, near_webs, odd_things, renamed, ring_web, row_web, small_webs, star_web,
)
from tests.shapes import shuffled


class Row(list):
    pass


class Pair(tuple):
    pass


def leads_of(one, other, places):
    """All leads that lie and lead just these places."""
    told = []
    for ends in permutations(range(len(other[0])), len(places)):
        lead = list(zip(places, ends))
        if all(one[0][place] == other[0][end] for place, end in lead) and plain_lies(one, other, lead):
            told.append(lead)
    return told


def plain_common(webs):
    """(size, leads): the most places, and of all lists of leads with so many the first."""
    first = webs[0]
    for size in range(len(first[0]), -1, -1):
        told = []
        for places in combinations(range(len(first[0])), size):
            itself = [(place, place) for place in places]
            choices = [[itself]] + [leads_of(first, web, places) for web in webs[1:]]
            # Of all lists of one of each the first one has the first of each.
            told += [[min(choice) for choice in choices]] if all(choices) else []
        if told:
            return size, min(told)
    raise AssertionError("the size 0 is always found")


def chance_lists():
    chance = random.Random(45)
    told = []
    for kinds, tie_kinds in (("a", "t"), ("a", "tu"), ("ab", "t"), ("aab", "tu"), ("abcde", "t")):
        for many in (1, 2, 3, 4):
            for share in (0, 3, 6, 10):
                for _ in range(3):
                    told.append([chance_web(chance, chance.randrange(2, 6), kinds, tie_kinds,
                        share) for _ in range(many)])
    for share in (3, 6):
        web = chance_web(chance, 5, "ab", "tu", share)
        near = [other for other in near_webs(chance, web) if len(other[0]) <= 5]
        told += [[web, *chance.sample(near, 3)] for _ in range(20)]
    return told


class CommonOf(unittest.TestCase):
    """[45], [46]"""

    def assert_common(self, webs, size, leads):
        before = copy.deepcopy(webs)
        told = common_of(webs)
        self.assertEqual(told, (size, leads), webs)
        self.assertEqual([type(told), type(told[0]), type(told[1])], [tuple, int, list])
        self.assertEqual([type(lead) for lead in told[1]], [list] * len(webs))
        for lead in told[1]:
            self.assertEqual([type(pair) for pair in lead], [tuple] * size)
        self.assertEqual(webs, before)

    def test_one_web_is_all_its_places(self):
        self.assert_common([NOWHERE], 0, [[]])
        for web in small_webs(3) + [ring_web(5), row_web(5), full_web("abcab", "tu"), ("a" * 5, ())]:
            many = len(web[0])
            self.assert_common([web], many, [[(place, place) for place in range(many)]])

    def test_a_web_without_places_among_them(self):
        row = row_web(5)
        self.assert_common([row, NOWHERE], 0, [[], []])
        self.assert_common([NOWHERE, row], 0, [[], []])
        self.assert_common([row, row, NOWHERE, row], 0, [[], [], [], []])
        self.assert_common([NOWHERE] * 4, 0, [[], [], [], []])

    def test_nothing_in_common(self):
        self.assert_common([ALONE, ("b", ())], 0, [[], []])
        # Each two have a place in common, but not all three.
        self.assert_common([("ab", ()), ("bc", ()), ("ca", ())], 0, [[], [], []])

    def test_some(self):
        self.assert_common([("ab", ()), ("ba", ())], 2, [[(0, 0), (1, 1)], [(0, 1), (1, 0)]])
        row, ring, star = row_web(4), ring_web(4), star_web(4)
        self.assert_common([row, ring], 3, [[(0, 0), (1, 1), (2, 2)], [(0, 0), (1, 1), (2, 2)]])
        straight = [(0, 0), (1, 1), (2, 2)]
        self.assert_common([row, ring, star], 3, [straight, straight, [(0, 1), (1, 0), (2, 2)]])
        self.assert_common([star, ring, row], 3, [straight, [(0, 0), (1, 1), (2, 3)], [(0, 1), (1, 0), (2, 2)]])

    def test_the_first_places_come_first(self):
        # Places 0 and 1 would do but for the last web.
        one = ("aaa", ((0, 1, "t"), (1, 2, "u")))
        self.assert_common([one, one], 3, [[(0, 0), (1, 1), (2, 2)]] * 2)
        self.assert_common([one, ("aa", ((0, 1, "t"),))], 2, [[(0, 0), (1, 1)], [(0, 0), (1, 1)]])
        self.assert_common([one, one, ("aa", ((0, 1, "u"),))], 2,
            [[(1, 1), (2, 2)], [(1, 1), (2, 2)], [(1, 0), (2, 1)]])
        self.assert_common([one, ("aa", ((0, 1, "u"),)), one], 2,
            [[(1, 1), (2, 2)], [(1, 0), (2, 1)], [(1, 1), (2, 2)]])

    def test_the_same_places_for_all(self):
        # Two by two they have two places in common, all three only one.
        webs = [("abc", ()), ("abc", ((0, 1, "t"), (0, 2, "t"))), ("abc", ((1, 2, "t"), (0, 1, "t"))[::-1])]
        size, leads = plain_common(webs)
        self.assert_common(webs, size, leads)
        self.assertEqual(size, 1)

    def test_the_same_web_twice_changes_nothing(self):
        for webs in chance_lists()[:80]:
            if len(webs) < 4:
                size, leads = common_of(webs)
                for at in range(len(webs)):
                    self.assert_common(webs + [webs[at]], size, leads + [leads[at]])
                self.assert_common([webs[0]] + webs, size, [leads[0]] + leads)

    def test_called_otherwise(self):
        chance = random.Random(46)
        for webs in chance_lists()[::3]:
            again = [shuffled(chance, web) for web in webs]
            self.assertEqual(common_of(again)[0], common_of(webs)[0])
        for web in (ring_web(5), star_web(5), full_web("ababa", "t")):
            webs = [renamed(web, chance.sample(range(5), 5)) for _ in range(4)]
            self.assertEqual(common_of(webs)[0], 5)

    def test_held_against_a_plain_search(self):
        sizes = [0] * 6
        for webs in chance_lists():
            size, leads = plain_common(webs)
            self.assert_common(webs, size, leads)
            sizes[size] += 1
        self.assertGreater(min(sizes[1:]), 8)

    def test_at_most_the_greatest_piece_of_any_two(self):
        chance = random.Random(47)
        for webs in chance_lists():
            size, _ = common_of(webs)
            for one, other in combinations(webs, 2):
                self.assertLessEqual(size, greatest_lying(one, other)[0])
            if len(webs) > 1:
                two = chance.sample(webs, 2)
                self.assertEqual(common_of(two)[0], greatest_lying(*two)[0])

    def refuse(self, thing):
        with self.assertRaises(NoWebs):
            common_of(thing)

    def test_no_such_list(self):
        self.assertTrue(issubclass(NoWebs, WebError))
        row = row_web(5)
        self.refuse([])
        self.refuse([row] * 5)
        self.refuse([NOWHERE] * 5)
        self.refuse((row, row))
        self.refuse((row,))
        self.refuse(row)
        self.refuse(())
        self.refuse({0: row})
        self.refuse(Row([row]))
        self.refuse(iter([row]))
        self.refuse([[row]])
        self.refuse([list(row)])
        self.refuse([Pair(row)])
        self.refuse([("aaaaa", tuple(reversed(row[1])))])
        self.refuse([("aaaa", row[1])])

    def test_webs_of_six_places(self):
        for web in (row_web(6), ("a" * 6, ()), ("abcdef", ()), row_web(7), row_web(40)):
            for at in range(4):
                webs = [row_web(5)] * 3
                webs.insert(at, web)
                self.refuse(webs)
                self.refuse(webs[at:at + 1])
                webs = [NOWHERE, NOWHERE, NOWHERE]
                webs.insert(at, web)
                self.refuse(webs)

    def test_no_such_list_of_anything(self):
        row = row_web(5)
        for name, thing in odd_things().items():
            with self.subTest(name=name):
                self.refuse(thing)
                self.refuse([thing])
                for at in range(4):
                    webs = [row] * 3
                    webs.insert(at, thing)
                    self.refuse(webs)
                self.refuse([("aaa", thing)])
                self.refuse([NOWHERE, (thing, ())])
                self.refuse([row, ("aaa", (thing,))])

    def test_thousands_deep(self):
        row = row_web(3)
        for kind in (list, tuple):
            thing = deep(kind, 5000)
            for webs in (thing, [thing], [row, thing], [row, ("aaa", thing)], [row, ("aaa", ((0, 1, thing),))]):
                self.refuse(webs)

    def test_told_leads_are_the_askers_own(self):
        row = row_web(3)
        for webs in ([row], [row, row], [row, NOWHERE], [NOWHERE] * 3, [row] * 4):
            size, leads = common_of(webs)
            wanted = copy.deepcopy(leads)
            for lead in leads:
                lead.append((9, 9))
                lead[0] = None
            leads.append([])
            self.assert_common(webs, size, wanted)
        size, leads = common_of([row] * 4)
        self.assertEqual(len({id(lead) for lead in leads}), 4)


if __name__ == "__main__":
    unittest.main()
