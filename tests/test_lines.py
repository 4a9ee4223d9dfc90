"""Points [36] to [38], with [1] for them."""

import random
import unittest
from itertools import product

from commonweb.errors import NoShape, WebError
from commonweb.lines import along, common_stretch, shape_of
from tests.plain import plain_best
from tests.samples import (
    ALONE, MANY, MIXED, NOWHERE, chance_webs, plain_tie, renamed, ring_web, row_web, seven_webs, small_webs, star_web,
)
from tests.shapes import chance_ring, chance_row, chance_tree, from_letters, no_trees, plain_shape, shuffled


def two_rings(many):
    """Two rings of so many places each."""
    ties = ring_web(many)[1]
    return ("a" * many * 2, ties + tuple((place + many, other + many, kind) for place, other, kind in ties))


def near_misses():
    """Webs that are nearly rows or rings."""
    row, ring = row_web(10), ring_web(10)
    return [
        NOWHERE,
        MIXED,
        ("aa", ()),
        two_rings(3),
        two_rings(20),
        star_web(4),
        star_web(MANY),
        # A tie more, and a tie less, of a row and of a ring.
        ("a" * 10, tuple(sorted((*row[1], (0, 2, "t"))))),
        ("a" * 10, tuple(sorted((*row[1], (0, 8, "t"))))),
        ("a" * 10, row[1][:4] + row[1][5:]),
        ("a" * 10, tuple(sorted((*ring[1], (2, 7, "t"))))),
        ("a" * 11, ring[1]),
        ("a" * 11, row[1]),
        # A ring with a tail, a row with a twig, a ring and a row, as many ties as a row has.
        ("a" * 11, tuple(sorted((*ring[1], (5, 10, "t"))))),
        ("a" * 11, tuple(sorted((*row[1], (5, 10, "t"))))),
        ("a" * 5, ((0, 1, "t"), (0, 2, "t"), (1, 2, "t"), (3, 4, "t"))),
        ("a" * 4, ((0, 1, "t"), (0, 2, "t"), (1, 2, "t"))),
        ("a" * 4, ((0, 1, "t"), (0, 2, "t"), (0, 3, "t"), (1, 2, "t"), (1, 3, "t"), (2, 3, "t"))),
    ]


def chance_line(chance, many, kinds, tie_kinds):
    if many > 2 and chance.randrange(2):
        return chance_ring(chance, many, kinds, tie_kinds)
    return chance_row(chance, many, kinds, tie_kinds)


def plain_stretches(web, size, turned):
    """The lists of so many places that follow one another, of a ring all at most once."""
    places = along(web)[::-1] if turned else along(web)
    many = len(places)
    if len(web[1]) < many:
        return [places[at:at + size] for at in range(many - size + 1)]
    return [[places[(at + step) % many] for step in range(size)] for at in range(many)]


def written(web, places):
    """The kinds of places and of ties along them, and of the tie from the last to the first."""
    ties = [plain_tie(web, *pair) for pair in zip(places, places[1:] + places[:1])]
    return [web[0][place] for place in places], ties[:-1] if len(places) < 3 else ties


def plain_stretch(one, other):
    """(size, lead) by trying each stretch against each, from the longest on."""
    for size in range(min(len(one[0]), len(other[0])), 0, -1):
        there = {}
        for turned in (False, True):
            for ends in plain_stretches(other, size, turned):
                there.setdefault(repr(written(other, ends)), []).append(ends)
        leads = []
        for places in plain_stretches(one, size, False):
            leads += [sorted(zip(places, ends)) for ends in there.get(repr(written(one, places)), [])]
        if leads:
            return size, min(leads)
    return 0, []


class Shape(unittest.TestCase):
    """[36]"""

    def assert_shape(self, web, shape):
        told = shape_of(web)
        self.assertEqual(told, shape, web)
        self.assertIs(type(told), type(shape))

    def test_rows(self):
        chance = random.Random(1)
        self.assert_shape(ALONE, "row")
        self.assert_shape(("ab", ((0, 1, "z"),)), "row")
        for many in range(1, MANY + 1):
            self.assert_shape(row_web(many), "row")
            self.assert_shape(row_web(many, turned=True), "row")
            self.assert_shape(chance_row(chance, many, "abc", "tu"), "row")

    def test_rings(self):
        chance = random.Random(2)
        for many in range(3, MANY + 1):
            self.assert_shape(ring_web(many), "ring")
            self.assert_shape(chance_ring(chance, many, "abc", "tu"), "ring")

    def test_others(self):
        for web in near_misses():
            self.assert_shape(web, None)

    def test_held_against_degrees_and_distances(self):
        met = {None: 0, "row": 0, "ring": 0}
        for web in small_webs(3) + small_webs(4, "a", "x") + seven_webs() + no_trees() + chance_webs()[:60]:
            self.assert_shape(web, plain_shape(web))
            met[plain_shape(web)] += 1
        for shape in met:
            self.assertGreater(met[shape], 8)


class Along(unittest.TestCase):
    """[37]"""

    def assert_along(self, web):
        """There is just one list of all places that holds all this."""
        told = along(web)
        self.assertIs(type(told), list)
        self.assertEqual(sorted(told), list(range(len(web[0]))))
        for place in told:
            self.assertIs(type(place), int)
        for pair in zip(told, told[1:]):
            self.assertIsNotNone(plain_tie(web, *pair))
        if plain_shape(web) == "row":
            self.assertLessEqual(told[0], told[-1])
        else:
            self.assertIsNotNone(plain_tie(web, told[0], told[-1]))
            self.assertEqual(told[0], 0)
            self.assertLess(told[1], told[-1])

    def test_some(self):
        self.assertEqual(along(ALONE), [0])
        self.assertEqual(along(row_web(2)), [0, 1])
        self.assertEqual(along(row_web(4)), [0, 1, 2, 3])
        self.assertEqual(along(ring_web(4)), [0, 1, 2, 3])
        # The ends of the row are 1 and 3, and then 2 and 3.
        self.assertEqual(along(("aaaa", ((0, 2, "t"), (0, 3, "t"), (1, 2, "t")))), [1, 2, 0, 3])
        self.assertEqual(along(("aaaa", ((0, 1, "t"), (0, 3, "t"), (1, 2, "t")))), [2, 1, 0, 3])
        self.assertEqual(along(("aaaa", ((0, 2, "t"), (0, 3, "t"), (1, 2, "t"), (1, 3, "t")))), [0, 2, 1, 3])
        self.assertEqual(along(("aaaaa", ((0, 2, "t"), (0, 4, "t"), (1, 3, "t"), (1, 4, "t"), (2, 3, "t")))),
            [0, 2, 3, 1, 4])

    def test_all_sizes(self):
        chance = random.Random(3)
        for many in range(1, MANY + 1):
            for web in (row_web(many), row_web(many, turned=True), chance_row(chance, many, "ab", "tu")):
                self.assert_along(web)
        for many in range(3, MANY + 1):
            self.assertEqual(along(ring_web(many)), list(range(many)))
            self.assert_along(chance_ring(chance, many, "ab", "tu"))

    def test_another_web_is_refused(self):
        for web in near_misses():
            with self.assertRaises(NoShape):
                along(web)
        self.assertTrue(issubclass(NoShape, WebError))

    def test_told_places_are_the_askers_own(self):
        for web in (row_web(4), ring_web(4), ALONE):
            told = along(web)
            wanted = list(told)
            told.append(9)
            told[0] = None
            self.assertEqual(along(web), wanted)


class CommonStretch(unittest.TestCase):
    """[38]"""

    def assert_stretch(self, one, other, size, lead):
        told = common_stretch(one, other)
        self.assertEqual(told, (size, lead), (one, other))
        self.assertEqual([type(told), type(told[0]), type(told[1])], [tuple, int, list])

    def test_edges(self):
        self.assert_stretch(ALONE, ALONE, 1, [(0, 0)])
        self.assert_stretch(ALONE, ("b", ()), 0, [])
        self.assert_stretch(ring_web(5), ("b" * 5, row_web(5)[1]), 0, [])
        self.assert_stretch(row_web(2), row_web(2), 2, [(0, 0), (1, 1)])
        self.assert_stretch(row_web(3), ("aaa", ((0, 1, "u"), (1, 2, "u"))), 1, [(0, 0)])
        self.assert_stretch(("ab", ((0, 1, "t"),)), ("ba", ((0, 1, "t"),)), 2, [(0, 1), (1, 0)])

    def test_a_ring_is_no_row(self):
        straight = [(place, place) for place in range(40)]
        for many in range(3, MANY + 1):
            self.assert_stretch(ring_web(many), ring_web(many), many, straight[:many])
            self.assert_stretch(ring_web(many), row_web(many), many - 1, straight[:many - 1])
            self.assert_stretch(row_web(many), ring_web(many), many - 1, straight[:many - 1])
            self.assert_stretch(row_web(many), row_web(many), many, straight[:many])
        for many in range(4, MANY + 1):
            self.assertEqual(common_stretch(ring_web(many), ring_web(many - 1))[0], many - 2)
            self.assertEqual(common_stretch(ring_web(many - 1), ring_web(many))[0], many - 2)

    def test_rings_that_only_their_last_ties_part(self):
        for many in (3, 4, 7, 40):
            ring = from_letters("a" * many, "t" * many)
            other = from_letters("a" * many, "t" * (many - 1) + "u")
            self.assertEqual(common_stretch(ring, other)[0], many - 1)
            self.assertEqual(common_stretch(other, ring)[0], many - 1)
            self.assertEqual(common_stretch(other, renamed(other, [*range(1, many), 0]))[0], many)

    def test_a_ring_with_itself_turned(self):
        chance = random.Random(4)
        for many in (3, 5, 8, 40):
            ring = chance_ring(chance, many, "abc", "tu")
            self.assertEqual(common_stretch(ring, shuffled(chance, ring))[0], many)
            places = along(ring)
            for step in (1, many - 1):
                names = [0] * many
                for at, place in enumerate(places):
                    names[place] = places[(at + step) % many]
                self.assertEqual(common_stretch(ring, renamed(ring, names))[0], many)
                for at, place in enumerate(places):
                    names[place] = places[-at]
                self.assertEqual(common_stretch(ring, renamed(ring, names))[0], many)

    def test_held_against_all_leads(self):
        chance = random.Random(5)
        rings = rows = 0
        for at in range(600):
            kinds, tie_kinds = chance.choice((("a", "t"), ("ab", "t"), ("aab", "tu"), ("a", "tu"), ("abc", "t")))
            one = chance_line(chance, chance.randrange(1, 6) if at % 20 else 6, kinds, tie_kinds)
            other = chance_line(chance, chance.randrange(1, 6), kinds, tie_kinds)
            if at % 5 == 0:
                other = shuffled(chance, one)
            rings += plain_shape(one) == "ring"
            rows += plain_shape(one) == "row"
            best = plain_best(one, other)["lies", True]
            self.assert_stretch(one, other, best.size, best.lead)
        self.assertGreater(min(rings, rows), 150)

    def test_held_against_all_stretches(self):
        chance = random.Random(6)
        for kinds, tie_kinds in product(("a", "ab", "abcdef"), ("t", "tu")):
            for one_of, other_of in product((chance_row, chance_ring), repeat=2):
                for many in (40, 40, 31, 9):
                    one = one_of(chance, chance.choice((40, 12)), kinds, tie_kinds)
                    other = other_of(chance, many, kinds, tie_kinds)
                    self.assert_stretch(one, other, *plain_stretch(one, other))
                again = shuffled(chance, one)
                self.assert_stretch(one, again, *plain_stretch(one, again))

    def test_forty_places_of_one_kind(self):
        chance = random.Random(7)
        for _ in range(6):
            row, ring, less = chance_row(chance, 40), chance_ring(chance, 40), chance_ring(chance, 39)
            for one, other in product((row, ring, less), repeat=2):
                self.assert_stretch(one, other, *plain_stretch(one, other))

    def test_letters_in_turn(self):
        # Many stretches are alike, of both ways about.
        chance = random.Random(8)
        for kinds, tie_kinds in (("ab", "t"), ("aab", "t"), ("a", "tu"), ("abb", "tu")):
            lines = []
            for many in (40, 37):
                signs, marks = (kinds * 40)[:many], (tie_kinds * 40)[:many]
                lines.append(shuffled(chance, from_letters(signs, marks[1:])))
                lines.append(shuffled(chance, from_letters(signs, marks)))
            for one, other in product(lines, repeat=2):
                self.assert_stretch(one, other, *plain_stretch(one, other))

    def test_another_web_is_refused_in_either_seat(self):
        for web in (*near_misses(), chance_tree(random.Random(9), 30)):
            for one, other in ((web, ALONE), (ALONE, web), (web, ring_web(5)), (ring_web(5), web), (web, web)):
                with self.assertRaises(NoShape):
                    common_stretch(one, other)

    def test_told_leads_are_the_askers_own(self):
        for one, other in ((row_web(7), ring_web(7)), (ALONE, ("b", ())), (ring_web(3), ring_web(3))):
            before = repr((one, other))
            size, lead = common_stretch(one, other)
            wanted = list(lead)
            lead.append((9, 9))
            lead[0] = None
            self.assert_stretch(one, other, size, wanted)
            self.assertIsNot(common_stretch(one, other)[1], common_stretch(one, other)[1])
            self.assertEqual(repr((one, other)), before)


if __name__ == "__main__":
    unittest.main()
