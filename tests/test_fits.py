"""Point [11], and [1] as far as pairs go."""

import random
import unittest
from itertools import combinations

from commonweb.fits import fit, pairs
from commonweb.leads import lies
from tests.plain import plain_fit
from tests.samples import (
    ALONE, LETTERS, MANY, MIXED, NOWHERE, all_webs, chance_webs, full_web, plain_leads, row_web, small_webs,
)

ROW = ("abab", ((0, 1, "x"), (1, 2, "x"), (2, 3, "y")))
RING = ("abab", ((0, 1, "x"), (0, 3, "y"), (1, 2, "x"), (2, 3, "x")))


class Pairs(unittest.TestCase):
    """[11]"""

    def test_edges(self):
        self.assertEqual(pairs(NOWHERE, NOWHERE), [])
        self.assertEqual(pairs(NOWHERE, ROW), [])
        self.assertEqual(pairs(ROW, NOWHERE), [])
        self.assertEqual(pairs(ALONE, ALONE), [(0, 0)])
        self.assertEqual(pairs(ALONE, ("bcd", ())), [])
        self.assertEqual(pairs(("bcd", ()), ALONE), [])

    def test_all_of_like_kinds_rising(self):
        self.assertEqual(pairs(ROW, ("bac", ())), [(0, 1), (1, 0), (2, 1), (3, 0)])
        self.assertEqual(pairs(("bac", ()), ROW), [(0, 1), (0, 3), (1, 0), (1, 2)])
        self.assertEqual(pairs(("aa", ()), ("aa", ((0, 1, "x"),))), [(0, 0), (0, 1), (1, 0), (1, 1)])

    def test_all_webs(self):
        webs = all_webs()[::7] + all_webs()[-20:]
        for one in webs:
            for other in webs[::3]:
                wanted = [
                    (place, end) for place in range(len(one[0])) for end in range(len(other[0]))
                    if one[0][place] == other[0][end]
                ]
                told = pairs(one, other)
                self.assertIs(type(told), list)
                self.assertEqual(told, wanted)

    def test_forty_places(self):
        web = full_web("a" * MANY, "t")
        self.assertEqual(pairs(web, web), [(place, end) for place in range(MANY) for end in range(MANY)])
        kinds = (LETTERS * 2)[:MANY]
        self.assertEqual(len(pairs((kinds, ()), (kinds[::-1], ()))), 14 * 4 + 12)

    def test_numbers_are_no_truths(self):
        for pair in pairs(("aa", ()), ("aa", ())):
            self.assertIs(type(pair), tuple)
            self.assertEqual([type(number) for number in pair], [int, int])

    def test_told_pairs_are_the_askers_own(self):
        told = pairs(ROW, RING)
        wanted = list(told)
        told.clear()
        self.assertEqual(pairs(ROW, RING), wanted)
        pairs(NOWHERE, NOWHERE).append((0, 0))
        self.assertEqual(pairs(NOWHERE, NOWHERE), [])


class Fit(unittest.TestCase):
    """[11]"""

    def assert_fit(self, one, other, pair, beside, wanted):
        self.assertIs(fit(one, other, pair, beside), wanted)
        self.assertIs(fit(one, other, beside, pair), wanted)

    def test_pairs_that_share_a_place(self):
        for one, other in ((ROW, RING), (ROW, ROW), (("aaa", ()), ("aaa", ()))):
            self.assert_fit(one, other, (0, 0), (0, 0), False)
            self.assert_fit(one, other, (0, 0), (0, 2), False)
            self.assert_fit(one, other, (0, 0), (2, 0), False)
        full = full_web("aaa", "t")
        self.assert_fit(full, full, (0, 1), (2, 1), False)
        self.assert_fit(full, full, (1, 0), (1, 2), False)

    def test_ties_of_like_kinds_or_none(self):
        self.assert_fit(ROW, RING, (0, 0), (1, 1), True)
        self.assert_fit(ROW, RING, (0, 2), (1, 1), True)
        self.assert_fit(ROW, RING, (2, 0), (3, 3), True)
        # None in both webs, a tie of another kind, a tie in the one alone, in the other alone.
        self.assert_fit(ROW, RING, (0, 0), (2, 2), True)
        self.assert_fit(ROW, RING, (2, 2), (3, 3), False)
        self.assert_fit(ROW, ("ab", ()), (0, 0), (1, 1), False)
        self.assert_fit(ROW, RING, (0, 0), (3, 3), False)

    def test_a_tie_of_the_very_ends(self):
        web = ("aaaa", ((0, 1, "x"), (1, 2, "y"), (2, 3, "x")))
        self.assert_fit(web, web, (0, 3), (1, 2), True)
        self.assert_fit(web, web, (0, 1), (1, 2), False)
        self.assert_fit(web, web, (0, 0), (3, 2), True)
        self.assert_fit(web, web, (0, 0), (3, 1), False)

    def test_small_webs(self):
        webs = small_webs(2) + small_webs(3, "a", "xy")[5:]
        for one in webs:
            for other in webs:
                every = pairs(one, other)
                for pair in every:
                    for beside in every:
                        wanted = plain_fit(one, other, pair, beside)
                        self.assertIs(fit(one, other, pair, beside), wanted)

    def test_large_webs(self):
        chance = random.Random(8)
        told = {True: 0, False: 0}
        webs = [*chance_webs(), MIXED, row_web(MANY, turned=True), full_web("a" * MANY, "tuv")]
        for _ in range(300):
            one, other = chance.choice(webs), chance.choice(webs)
            every = pairs(one, other)
            for pair in every[:20]:
                beside = chance.choice(every)
                wanted = plain_fit(one, other, pair, beside)
                self.assert_fit(one, other, pair, beside, wanted)
                told[wanted] += 1
        self.assertGreater(min(told.values()), 500)

    def test_every_tie_of_forty_places(self):
        web = full_web("a" * MANY, "tuv")
        for place, other, kind in web[1]:
            self.assert_fit(web, ("aa", ((0, 1, kind),)), (place, 1), (other, 0), True)
            self.assert_fit(web, ("aa", ((0, 1, "w"),)), (place, 1), (other, 0), False)

    def test_a_lead_lies_just_where_its_pairs_fit(self):
        webs = small_webs(2) + small_webs(3, "a", "x")[3:] + [ROW, RING]
        for one in webs:
            for other in webs:
                for lead in plain_leads(one, other):
                    fits = all(fit(one, other, *two) for two in combinations(lead, 2))
                    self.assertIs(lies(one, other, lead), fits)


if __name__ == "__main__":
    unittest.main()
