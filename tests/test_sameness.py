"""Points [39] to [41], with [1] for them."""

import functools
import random
import unittest
from itertools import permutations
from math import factorial

from commonweb.sameness import marks, onto_itself, plain, same_lead
from commonweb.webs import is_web
from tests.plain import plain_lies
from tests.samples import (
    ALONE, MANY, MIXED, NOWHERE, all_webs, chance_web, full_web, near_webs, renamed, ring_web, row_web, seven_webs,
    small_webs, star_web,
)
from tests.shapes import chance_row, chance_tree, letters, shuffled

STRAIGHT = [(place, place) for place in range(7)]


@functools.lru_cache(maxsize=None)
def webs_by_orders(web):
    """The web with its places called by each order, by the order."""
    return {order: renamed(web, order) for order in permutations(range(len(web[0])))}


def plain_same_lead(one, other):
    """The first order by which the one is called like the other, as a lead, or None."""
    orders = [order for order, web in webs_by_orders(one).items() if web == other]
    return list(enumerate(min(orders))) if orders else None


@functools.lru_cache(maxsize=None)
def few_webs():
    """Webs of up to six places."""
    chance = random.Random(39)
    told = small_webs(2) + small_webs(3, "a", "xy") + small_webs(4, "a", "x")[-40:] + [MIXED, ring_web(6), star_web(6)]
    for many in (4, 5, 6):
        for kinds, tie_kinds in (("a", "t"), ("ab", "t"), ("ab", "tu"), ("aab", "tuv"), ("abcdef", "t")):
            for share in (0, 2, 5, 8, 10):
                told.append(chance_web(chance, many, kinds, tie_kinds, share))
    return told


def plain_marks(web):
    """The marks, round by round as the point says it."""
    kinds, ties = web
    places = range(len(kinds))
    told = [sorted(set(kinds)).index(kind) for kind in kinds]
    for _ in places:
        keys = []
        for place in places:
            around = [(tie[2], told[tie[1 - tie.index(place)]]) for tie in ties if place in tie[:2]]
            keys.append((told[place], sorted(around)))
        order = sorted(keys)
        unlike = [key for at, key in enumerate(order) if at == 0 or order[at - 1] != key]
        told = [unlike.index(key) for key in keys]
    return told


class SameLead(unittest.TestCase):
    """[39]"""

    def assert_same(self, one, other, lead):
        told = same_lead(one, other)
        self.assertEqual(told, lead, (one, other))
        self.assertIs(type(told), type(lead))
        if lead:
            self.assertEqual({type(pair) for pair in told}, {tuple})

    def test_webs_without_places(self):
        self.assert_same(NOWHERE, NOWHERE, [])
        self.assert_same(NOWHERE, ALONE, None)
        self.assert_same(ALONE, NOWHERE, None)

    def test_small_ones(self):
        self.assert_same(ALONE, ALONE, [(0, 0)])
        self.assert_same(ALONE, ("b", ()), None)
        self.assert_same(("ab", ()), ("ba", ()), [(0, 1), (1, 0)])
        self.assert_same(("ab", ((0, 1, "x"),)), ("ba", ((0, 1, "x"),)), [(0, 1), (1, 0)])
        self.assert_same(("ab", ((0, 1, "x"),)), ("ba", ((0, 1, "y"),)), None)
        self.assert_same(("ab", ((0, 1, "x"),)), ("ba", ()), None)
        self.assert_same(("aa", ()), ("aaa", ()), None)
        self.assert_same(("aaa", ()), ("aa", ()), None)

    def test_the_first_one(self):
        for web in (("a" * 7, ()), full_web("a" * 7, "t"), ring_web(7), row_web(7), star_web(7)):
            self.assert_same(web, web, STRAIGHT)
        # The star's middle must go to the middle; the others go in order.
        star = renamed(star_web(5), [3, 0, 1, 2, 4])
        self.assert_same(star_web(5), star, [(0, 3), (1, 0), (2, 1), (3, 2), (4, 4)])
        self.assert_same(star, star_web(5), [(0, 1), (1, 2), (2, 3), (3, 0), (4, 4)])

    def test_held_against_all_orders(self):
        chance = random.Random(40)
        same = unlike = 0
        for one in few_webs():
            again = shuffled(chance, one)
            self.assert_same(one, again, plain_same_lead(one, again))
            self.assertIsNotNone(same_lead(one, again))
            for other in [*near_webs(chance, one)[-3:], again, chance.choice(few_webs())] if one[0] else []:
                lead = plain_same_lead(one, other)
                same += lead is not None
                unlike += lead is None
                self.assert_same(one, other, lead)
        self.assertGreater(min(same, unlike), 100)

    def test_alike_in_all_counts(self):
        # A ring of six and two of three; the places' degrees tell nothing.
        two = ("aaaaaa", ((0, 1, "t"), (0, 2, "t"), (1, 2, "t"), (3, 4, "t"), (3, 5, "t"), (4, 5, "t")))
        self.assert_same(ring_web(6), two, None)
        self.assert_same(two, ring_web(6), None)
        self.assert_same(two, renamed(two, [0, 2, 4, 1, 3, 5]), [(0, 0), (1, 2), (2, 4), (3, 1), (4, 3), (5, 5)])

    def test_seven_places(self):
        chance = random.Random(41)
        for one in seven_webs():
            for _ in range(3):
                other = shuffled(chance, one)
                lead = same_lead(one, other)
                self.assertEqual([place for place, _ in lead], list(range(7)))
                self.assertEqual(sorted(end for _, end in lead), list(range(7)))
                self.assertTrue(plain_lies(one, other, lead))
                self.assertEqual(lead, list(enumerate(first_order(one, other))))
            for other in near_webs(chance, one):
                self.assertEqual(same_lead(one, other) is None, plain(one) != plain(other))

    def test_told_leads_are_the_askers_own(self):
        for web in (NOWHERE, ALONE, row_web(4)):
            before = repr(web)
            lead = same_lead(web, web)
            wanted = list(lead)
            lead.append((9, 9))
            lead[0] = None
            self.assert_same(web, web, wanted)
            self.assertEqual(repr(web), before)


def first_order(one, other):
    """The first order by which the one is called like the other."""
    return next(order for order in permutations(range(len(one[0]))) if renamed(one, order) == other)


class Plain(unittest.TestCase):
    """[40]"""

    def assert_plain(self, web, wanted):
        told = plain(web)
        self.assertEqual(told, wanted, web)
        self.assertIs(is_web(told), True)

    def test_edges(self):
        self.assert_plain(NOWHERE, NOWHERE)
        self.assert_plain(ALONE, ALONE)
        self.assert_plain(("cab", ()), ("abc", ()))
        self.assert_plain(("a" * 7, ()), ("a" * 7, ()))
        self.assert_plain(full_web("a" * 7, "t"), full_web("a" * 7, "t"))

    def test_some(self):
        self.assert_plain(("aa", ((0, 1, "x"),)), ("aa", ((0, 1, "x"),)))
        self.assert_plain(("ba", ((0, 1, "x"),)), ("ab", ((0, 1, "x"),)))
        # Ties come first where they can: the one of two places out of three is 0 and 1.
        self.assert_plain(("aaa", ((1, 2, "x"),)), ("aaa", ((0, 1, "x"),)))
        self.assert_plain(("aaa", ((0, 2, "y"), (1, 2, "x"))), ("aaa", ((0, 1, "x"), (0, 2, "y"))))
        self.assert_plain(row_web(4), ("aaaa", ((0, 1, "t"), (0, 2, "t"), (1, 3, "t"))))
        self.assert_plain(ring_web(4), ("aaaa", ((0, 1, "t"), (0, 2, "t"), (1, 3, "t"), (2, 3, "t"))))
        # A tie of a greater kind is better than none, and an earlier one than a lesser kind.
        self.assert_plain(("aaa", ((0, 1, "a"), (1, 2, "z"))), ("aaa", ((0, 1, "a"), (0, 2, "z"))))
        self.assert_plain(("aab", ((1, 2, "x"),)), ("aab", ((0, 2, "x"),)))
        self.assert_plain(("aaab", ((0, 1, "z"), (2, 3, "a"))), ("aaab", ((0, 1, "z"), (2, 3, "a"))))

    def test_held_against_all_orders(self):
        for web in few_webs():
            self.assert_plain(web, min(webs_by_orders(web).values()))

    def test_seven_places_held_against_all_orders(self):
        for web in seven_webs()[-8:]:
            self.assert_plain(web, min(renamed(web, order) for order in permutations(range(7))))

    def test_the_same_just_where_plain_ones_are_one(self):
        chance = random.Random(42)
        for web in seven_webs():
            for kinds in ("aaaaaaa", "aababba", "abcabca"):
                one = (kinds, web[1])
                self.assertEqual(plain(shuffled(chance, one)), plain(one))
                self.assertEqual(plain(plain(one)), plain(one))
                for other in near_webs(chance, one):
                    self.assertEqual(plain(other) == plain(one), same_lead(one, other) is not None)

    def test_told_once_as_ever(self):
        web = MIXED
        self.assertEqual(plain(web), plain(web))
        self.assertEqual(web, ("abacab", ((0, 1, "x"), (0, 4, "y"), (1, 4, "x"), (2, 5, "z"))))


class OntoItself(unittest.TestCase):
    """[40]"""

    def assert_onto(self, web, many):
        told = onto_itself(web)
        self.assertEqual(told, many, web)
        self.assertIs(type(told), int)

    def test_edges(self):
        self.assert_onto(NOWHERE, 1)
        self.assert_onto(ALONE, 1)
        self.assert_onto(("ab", ()), 1)
        self.assert_onto(("abcdefg", ()), 1)

    def test_rings_rows_and_stars(self):
        for many in range(3, 8):
            self.assert_onto(ring_web(many), 2 * many)
            self.assert_onto(star_web(many), factorial(many - 1) if many > 3 else 2)
            self.assert_onto(row_web(many, turned=True), 2)
        self.assert_onto(row_web(2), 2)

    def test_without_ties_and_with_all(self):
        for many in range(8):
            self.assert_onto(("a" * many, ()), factorial(many))
            self.assert_onto(full_web("a" * many, "t"), factorial(many))
        self.assert_onto(("aaaabbb", ()), 24 * 6)
        self.assert_onto(full_web("ababaab", "t"), 24 * 6)

    def test_ties_of_other_kinds(self):
        self.assert_onto(("aaaa", ((0, 1, "t"), (1, 2, "u"), (2, 3, "t"))), 2)
        self.assert_onto(("aaaa", ((0, 1, "t"), (1, 2, "t"), (2, 3, "u"))), 1)

    def test_held_against_all_orders(self):
        for web in few_webs():
            self.assert_onto(web, sum(again == web for again in webs_by_orders(web).values()))

    def test_names_change_nothing(self):
        chance = random.Random(43)
        for web in seven_webs():
            self.assert_onto(shuffled(chance, web), onto_itself(web))


class Marks(unittest.TestCase):
    """[41]"""

    def assert_marks(self, web, wanted):
        told = marks(web)
        self.assertEqual(told, wanted, web)
        self.assertIs(type(told), list)
        for mark in told:
            self.assertIs(type(mark), int)

    def test_edges(self):
        self.assert_marks(NOWHERE, [])
        self.assert_marks(ALONE, [0])
        self.assert_marks(("z", ()), [0])
        self.assert_marks(("cabca", ()), [2, 0, 1, 2, 0])
        self.assert_marks(("a" * 40, ()), [0] * 40)
        self.assert_marks(full_web("a" * 40, "t"), [0] * 40)
        self.assert_marks(ring_web(40), [0] * 40)

    def test_some(self):
        self.assert_marks(star_web(5), [1, 0, 0, 0, 0])
        self.assert_marks(row_web(3), [0, 1, 0])
        self.assert_marks(row_web(5), [0, 1, 2, 1, 0])
        # Places without ties come ahead, and kinds of ties are ordered.
        self.assert_marks(("aaa", ((1, 2, "x"),)), [0, 1, 1])
        self.assert_marks(("aaaa", ((0, 1, "y"), (2, 3, "x"))), [1, 1, 0, 0])
        # The mark ahead counts first: b comes behind a, whatever their ties are.
        self.assert_marks(("ba", ((0, 1, "x"),)), [1, 0])
        self.assert_marks(("baa", ((1, 2, "x"),)), [1, 0, 0])
        # The ring of six and two of three have the same marks, though they are not the same.
        self.assert_marks(ring_web(6), [0] * 6)
        two = ((0, 1, "t"), (0, 2, "t"), (1, 2, "t"), (3, 4, "t"), (3, 5, "t"), (4, 5, "t"))
        self.assert_marks(("aaaaaa", two), [0] * 6)

    def test_the_numbers_of_each_round_follow_the_ones_ahead(self):
        # Here the two ends are parted by far away places, in the last rounds only.
        web = ("a" * 8 + "b", tuple((place, place + 1, "t") for place in range(8)))
        self.assert_marks(web, plain_marks(web))
        self.assertEqual(sorted(marks(web)), list(range(9)))

    def test_held_against_the_rounds(self):
        chance = random.Random(44)
        webs = all_webs() + seven_webs()
        for reach in (1, 3, 99):
            webs += [chance_tree(chance, 40, "ab", "tu", reach), chance_tree(chance, 40, "a", "t", reach)]
        webs += [chance_row(chance, 40), chance_row(chance, 39), chance_row(chance, 40, "aaaaab")]
        for web in webs:
            self.assert_marks(web, plain_marks(web))

    def test_a_lead_of_all_places_leads_to_the_same_marks(self):
        chance = random.Random(45)
        for web in few_webs() + seven_webs():
            other = shuffled(chance, web)
            here, there = marks(web), marks(other)
            for place, end in same_lead(web, other):
                self.assertEqual(here[place], there[end])
        for _ in range(20):
            web = (letters(chance, MANY, "abc"), chance_web(chance, MANY, "a", "tu", 2)[1])
            names = chance.sample(range(MANY), MANY)
            there = marks(renamed(web, names))
            self.assertEqual(marks(web), [there[name] for name in names])

    def test_told_marks_are_the_askers_own(self):
        for web in (NOWHERE, ALONE, row_web(4), ring_web(40)):
            before = repr(web)
            told = marks(web)
            wanted = list(told)
            told.append(9)
            told[0] = None
            self.assert_marks(web, wanted)
            self.assertEqual(repr(web), before)


if __name__ == "__main__":
    unittest.main()
