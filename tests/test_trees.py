"""Points [33] to [35], with [1] for them."""

import random
import unittest

from commonweb.errors import NoTree, WebError
from commonweb.trees import common_tree, is_tree, middle
from tests.plain import plain_best, plain_lies
from tests.samples import (
    ALONE, LETTERS, MANY, MIXED, NOWHERE, chance_webs, plain_parts, ring_web, row_web, seven_webs, small_webs, star_web,
)
from tests.shapes import (
    all_trees, big_trees, chance_tree, no_trees, plain_common_tree, plain_distances, shuffled, without_leaves,
)


def plain_tree(web):
    """True where the web has a place, hangs together and has one tie less than places."""
    many = len(web[0])
    whole = len(plain_parts(range(many), [tie[:2] for tie in web[1]])) == 1
    return many > 0 and whole and len(web[1]) == many - 1


class IsTree(unittest.TestCase):
    """[33]"""

    def test_trees(self):
        for web in (ALONE, row_web(2), row_web(MANY), row_web(MANY, turned=True), star_web(MANY), *all_trees(5)):
            self.assertIs(is_tree(web), True, web)
        for web in big_trees():
            self.assertIs(is_tree(web), True, web)

    def test_no_trees(self):
        for web in (NOWHERE, MIXED, ("ab", ()), *no_trees()):
            self.assertIs(is_tree(web), False, web)

    def test_as_many_ties_as_a_tree_has(self):
        self.assertIs(is_tree(("aaaa", ((0, 1, "t"), (0, 2, "t"), (1, 2, "t")))), False)
        self.assertIs(is_tree(("aaaa", ((0, 1, "t"), (0, 2, "t"), (0, 3, "t")))), True)

    def test_held_against_parts_and_ties(self):
        trees = 0
        for web in small_webs(3) + small_webs(4, "a", "x") + chance_webs() + seven_webs():
            trees += plain_tree(web)
            self.assertIs(is_tree(web), plain_tree(web), web)
        self.assertGreater(trees, 50)


class CommonTree(unittest.TestCase):
    """[33], [34]"""

    def assert_common(self, one, other, size):
        """The size is as wanted, and so long is the lead, a piece that hangs together."""
        told = common_tree(one, other)
        self.assertEqual([type(told), type(told[0]), type(told[1])], [tuple, int, list])
        self.assertEqual((told[0], len(told[1]), len(told)), (size, size, 2), (one, other))
        lead = told[1]
        self.assertEqual(lead, sorted(lead))
        for pair in lead:
            self.assertIs(type(pair), tuple)
            self.assertEqual(one[0][pair[0]], other[0][pair[1]])
        places = [place for place, _ in lead]
        self.assertEqual(len(set(places)), size)
        self.assertEqual(len(set(end for _, end in lead)), size)
        self.assertTrue(plain_lies(one, other, lead), (one, other, lead))
        ends = [tie[:2] for tie in one[1] if tie[0] in places and tie[1] in places]
        self.assertLess(len(plain_parts(places, ends)), 2, (one, other, lead))

    def test_edges(self):
        self.assert_common(ALONE, ALONE, 1)
        self.assert_common(ALONE, ("b", ()), 0)
        self.assert_common(ALONE, row_web(20), 1)
        self.assert_common(row_web(20), ALONE, 1)
        self.assert_common(("b", ()), row_web(20), 0)
        self.assert_common(("b" * 20, row_web(20)[1]), row_web(20), 0)
        # Ties of no like kinds: one place alone.
        self.assert_common(row_web(5), ("a" * 5, tuple((*tie[:2], "u") for tie in row_web(5)[1])), 1)

    def test_small_trees_held_against_all_leads(self):
        every = all_trees(4) + all_trees(3, "ab", "t") + all_trees(3, "a", "tu")
        for one in every:
            for other in every:
                self.assert_common(one, other, plain_best(one, other)["lies", True].size)

    def test_trees_of_up_to_seven_held_against_all_leads(self):
        chance = random.Random(34)
        for at in range(120):
            kinds, tie_kinds = chance.choice((("a", "t"), ("ab", "t"), ("aab", "tu"), ("a", "tu"), ("abc", "t")))
            many = chance.randrange(4, 7) if at % 10 else 7
            one = chance_tree(chance, many, kinds, tie_kinds, chance.choice((2, 99)))
            other = chance_tree(chance, chance.randrange(4, 7), kinds, tie_kinds, chance.choice((2, 99)))
            self.assert_common(one, other, plain_best(one, other)["lies", True].size)

    def test_a_place_may_have_to_leave_its_best_neighbour_to_another(self):
        # Two legs each, of two and three places, and of two and four: the long ones go together.
        legs = ("a" * 6, ((0, 1, "t"), (0, 3, "t"), (1, 2, "t"), (3, 4, "t"), (4, 5, "t")))
        longer = ("a" * 7, ((0, 1, "t"), (0, 5, "t"), (1, 2, "t"), (2, 3, "t"), (3, 4, "t"), (5, 6, "t")))
        hung = ("b" + legs[0][1:], legs[1])
        self.assert_common(hung, ("b" + longer[0][1:], longer[1]), 6)
        # By kinds the leg of two ends in b in one web, the leg of three in the other.
        one = ("c" + "abaaa", ((0, 1, "t"), (0, 3, "t"), (1, 2, "t"), (3, 4, "t"), (4, 5, "t")))
        other = ("c" + "aaaab", ((0, 1, "t"), (0, 3, "t"), (1, 2, "t"), (3, 4, "t"), (4, 5, "t")))
        self.assert_common(one, other, plain_common_tree(one, other))

    def test_trees_of_twenty_places(self):
        every = big_trees()
        for at, one in enumerate(every):
            self.assert_common(one, one, 20)
            for other in every[at + 1:]:
                size = common_tree(one, other)[0]
                self.assert_common(one, other, size)
                self.assert_common(other, one, size)

    def test_rows_and_stars_of_twenty_places(self):
        row, turned, star = row_web(20), row_web(20, turned=True), star_web(20)
        self.assert_common(row, turned, 20)
        self.assert_common(row, row_web(13), 13)
        self.assert_common(row, star, 3)
        self.assert_common(star, turned, 3)
        self.assert_common(star, shuffled(random.Random(1), star), 20)
        self.assert_common(star, star_web(12), 12)
        double = ("a" * 20, ((0, 1, "t"), *((0, at, "t") for at in range(2, 11)),
            *((1, at, "t") for at in range(11, 20))))
        self.assert_common(double, star, 11)
        self.assert_common(row, double, 4)

    def test_stars_of_many_kinds(self):
        ties = tuple((0, place, "tuv"[place % 3]) for place in range(1, 20))
        one = ("m" + LETTERS[:19], ties)
        self.assert_common(one, shuffled(random.Random(2), one), 20)
        other = ("m" + LETTERS[7:26], ties)
        alike = set(zip(one[0][1:], "uvt" * 9)) & set(zip(other[0][1:], "uvt" * 9))
        self.assert_common(one, other, 1 + len(alike))
        self.assert_common(one, ("n" + one[0][1:], ties), 1)

    def test_trees_of_twenty_places_called_otherwise_and_with_leaves_less(self):
        chance = random.Random(35)
        for kinds, tie_kinds in (("a", "t"), ("ab", "tu"), ("abc", "t")):
            for less in (0, 1, 4, 12, 19):
                for reach in (1, 3, 99):
                    one = chance_tree(chance, 20, kinds, tie_kinds, reach)
                    other = shuffled(chance, without_leaves(chance, one, less))
                    self.assert_common(one, other, 20 - less)
                    self.assert_common(other, one, 20 - less)

    def test_trees_of_twenty_places_held_against_a_plain_growth(self):
        chance = random.Random(36)
        for kinds, tie_kinds in (("a", "t"), ("ab", "t"), ("a", "tu"), ("abcd", "tu")):
            for reach in (2, 4, 6):
                for many in (20, 14):
                    one = chance_tree(chance, 20, kinds, tie_kinds, reach)
                    other = chance_tree(chance, many, kinds, tie_kinds, reach)
                    self.assert_common(one, other, plain_common_tree(one, other))

    def test_what_is_no_tree_is_refused_in_either_seat(self):
        for web in no_trees():
            for one, other in ((web, ALONE), (ALONE, web), (web, row_web(20)), (row_web(20), web), (web, web)):
                with self.assertRaises(NoTree):
                    common_tree(one, other)
        self.assertTrue(issubclass(NoTree, WebError))

    def test_told_leads_are_the_askers_own(self):
        for one, other in ((row_web(7), star_web(7)), (ALONE, ("b", ())), (ALONE, ALONE)):
            before = repr((one, other))
            size, lead = common_tree(one, other)
            lead.append((9, 9))
            lead[0] = None
            self.assert_common(one, other, size)
            self.assertIsNot(common_tree(one, other)[1], common_tree(one, other)[1])
            self.assertEqual(repr((one, other)), before)


class Middle(unittest.TestCase):
    """[35]"""

    def assert_middle(self, tree, places, far):
        told = middle(tree)
        self.assertEqual(told, (places, far), tree)
        self.assertEqual([type(told), type(told[0]), type(told[1])], [tuple, list, int])

    def test_rows(self):
        self.assert_middle(ALONE, [0], 0)
        self.assert_middle(row_web(2), [0, 1], 1)
        for many in range(1, MANY + 1):
            if many % 2:
                self.assert_middle(row_web(many), [many // 2], many // 2)
            else:
                self.assert_middle(row_web(many), [many // 2 - 1, many // 2], many // 2)

    def test_two_places_rise(self):
        self.assert_middle(("aaaa", ((0, 3, "t"), (1, 2, "t"), (1, 3, "u"))), [1, 3], 2)
        self.assert_middle(("aaaa", ((0, 1, "t"), (0, 3, "t"), (2, 3, "u"))), [0, 3], 2)

    def test_stars(self):
        for many in range(3, MANY + 1):
            self.assert_middle(star_web(many), [0], 1)

    def test_the_middle_is_not_where_most_places_are(self):
        ties = [(0, place, "t") for place in range(1, 30)] + [(place, place + 1, "t") for place in range(29, 39)]
        self.assert_middle(("a" * 40, tuple(ties)), [33], 6)

    def test_held_against_distances(self):
        chance = random.Random(37)
        trees = all_trees(5) + big_trees()
        trees += [chance_tree(chance, chance.randrange(2, 41), "ab", "tu",
            chance.choice((1, 2, 5, 99))) for _ in range(60)]
        twos = 0
        for tree in trees:
            farthest = [max(row) for row in plain_distances(tree)]
            places = [place for place, far in enumerate(farthest) if far == min(farthest)]
            twos += len(places) == 2
            self.assert_middle(tree, places, min(farthest))
        self.assertGreater(twos, 20)
        self.assertGreater(len(trees) - twos, 20)

    def test_what_is_no_tree_is_refused(self):
        for web in (*no_trees(), ring_web(3), MIXED):
            with self.assertRaises(NoTree):
                middle(web)

    def test_told_places_are_the_askers_own(self):
        tree = row_web(4)
        told, _ = middle(tree)
        told.append(7)
        told[0] = None
        self.assert_middle(tree, [1, 2], 2)
        self.assertEqual(tree, row_web(4))


if __name__ == "__main__":
    unittest.main()
