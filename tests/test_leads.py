"""Points [7] to [10], and [1] as far as leads go."""

import random
import unittest

from commonweb.leads import is_lead, is_piece, led_ties, lies, size_of
from tests.plain import plain_led, plain_lies, plain_piece
from tests.samples import (
    ALONE, LETTERS, MANY, NOWHERE, all_webs, chance_web, deep, full_web, odd_things, plain_leads,
    row_web, small_webs,
)

# A row of four places, and a ring of them whose ties are of two kinds.
ROW = ("abab", ((0, 1, "x"), (1, 2, "x"), (2, 3, "y")))
RING = ("abab", ((0, 1, "x"), (0, 3, "y"), (1, 2, "x"), (2, 3, "x")))
SAME = [(0, 0), (1, 1), (2, 2), (3, 3)]


def some_leads(chance, one, other, many):
    """Some leads of one web into another one, of all sizes."""
    for _ in range(many):
        places = chance.sample(range(len(one[0])), len(one[0]))
        ends = chance.sample(range(len(other[0])), len(other[0]))
        lead = [(place, end) for place, end in zip(places, ends) if one[0][place] == other[0][end]]
        yield sorted(lead[:chance.randrange(len(lead) + 1)])


def some_cases():
    """Webs and leads: all of the small ones, and some between webs of up to 40 places."""
    webs = small_webs(2) + small_webs(3, "a", "xy")
    for one in webs:
        for other in webs:
            for lead in plain_leads(one, other):
                yield one, other, lead
    chance = random.Random(33)
    for many in (4, 6, 12, MANY):
        for kinds, tie_kinds, share in (("a", "t", 8), ("a", "t", 2), ("ab", "tu", 5), ("abc", "tuv", 9)):
            for _ in range(4):
                one = chance_web(chance, many, kinds, tie_kinds, share)
                other = chance_web(chance, many, kinds, tie_kinds, share)
                for lead in some_leads(chance, one, other, 12):
                    yield one, other, lead
                for lead in some_leads(chance, one, one, 3):
                    yield one, one, [(place, place) for place, _ in lead]


class IsLead(unittest.TestCase):
    """[7]"""

    def assert_no_leads(self, one, other, things):
        for name, thing in things.items():
            with self.subTest(name=name):
                self.assertIs(is_lead(one, other, thing), False)

    def test_none_is_led(self):
        for one in (NOWHERE, ALONE, ROW, full_web("a" * MANY, "t")):
            for other in (NOWHERE, ALONE, ROW, full_web("a" * MANY, "t")):
                self.assertIs(is_lead(one, other, []), True)

    def test_leads_are_leads(self):
        for one, other, lead in some_cases():
            self.assertIs(is_lead(one, other, lead), True)

    def test_every_list_of_pairs_of_small_webs(self):
        """Of all lists of up to three pairs just the leads are leads."""
        for one in (NOWHERE, ALONE, ("ba", ()), ("aab", ((0, 1, "x"),))):
            for other in (NOWHERE, ("b", ()), ("ab", ((0, 1, "y"),)), ("aba", ())):
                leads = plain_leads(one, other)
                every = [(place, end) for place in range(-1, 4) for end in range(-1, 4)]
                for pair in every:
                    self.assertIs(is_lead(one, other, [pair]), [pair] in leads)
                    for beside in every:
                        self.assertIs(is_lead(one, other, [pair, beside]), [pair, beside] in leads)
                inner = [(place, end) for place in range(3) for end in range(3)]
                for lead in [[x, y, z] for x in inner for y in inner for z in inner]:
                    self.assertIs(is_lead(one, other, lead), lead in leads)

    def test_all_places_of_large_webs(self):
        web = full_web("a" * MANY, "t")
        straight = [(place, place) for place in range(MANY)]
        turned = [(place, MANY - 1 - place) for place in range(MANY)]
        self.assertIs(is_lead(web, web, straight), True)
        self.assertIs(is_lead(web, web, turned), True)
        self.assertIs(is_lead(web, web, turned[::-1]), False)
        self.assertIs(is_lead(web, web, straight[:-1] + [(MANY - 1, 0)]), False)
        self.assertIs(is_lead(web, web, straight + [(MANY, MANY)]), False)
        many_kinds = full_web((LETTERS * 2)[:MANY], LETTERS)
        self.assertIs(is_lead(many_kinds, many_kinds, straight), True)
        self.assertIs(is_lead(many_kinds, many_kinds, turned), False)

    def test_kinds_are_like(self):
        self.assert_no_leads(ROW, RING, {"other kind": [(0, 1)], "among": [(0, 0), (1, 1), (2, 3)]})
        self.assertIs(is_lead(ROW, RING, [(0, 2), (1, 3), (2, 0)]), True)

    def test_places_are_of_their_webs(self):
        self.assert_no_leads(ROW, ("ab", ()), {
            "below": [(-2, 0)],
            "other below": [(0, -2)],
            "both below": [(-4, -2)],
            "beyond": [(4, 0)],
            "other beyond": [(0, 2)],
            "far beyond": [(0, 10 ** 100)],
            "far below": [(-10 ** 100, 0)],
            "among": [(0, 0), (1, 3)],
        })
        # The second place is asked of the second web, the first of the first.
        self.assertIs(is_lead(ROW, ("ab", ()), [(3, 1)]), True)
        self.assertIs(is_lead(("ab", ()), ROW, [(1, 3)]), True)
        self.assertIs(is_lead(("ab", ()), ROW, [(3, 1)]), False)
        self.assertIs(is_lead(NOWHERE, ROW, [(0, 0)]), False)
        self.assertIs(is_lead(ROW, NOWHERE, [(0, 0)]), False)

    def test_truths_are_no_places(self):
        self.assert_no_leads(ROW, RING, {
            "place": [(False, 0)],
            "other": [(0, False)],
            "true place": [(True, 1)],
            "true other": [(1, True)],
            "both": [(False, False), (True, True)],
            "among": [(0, 0), (1, True), (2, 2)],
        })

    def test_pairs_rise_and_no_place_stands_twice(self):
        self.assert_no_leads(ROW, RING, {
            "falling": [(1, 1), (0, 0)],
            "falling behind": [(0, 0), (2, 2), (1, 1)],
            "pair twice": [(0, 0), (0, 0)],
            "place twice": [(0, 0), (0, 2)],
            "other twice": [(0, 0), (2, 0)],
            "other twice apart": [(0, 2), (1, 1), (2, 2)],
        })
        self.assertIs(is_lead(ROW, RING, [(0, 2), (2, 0)]), True)

    def test_tuples_and_lists_differ(self):
        self.assert_no_leads(ROW, RING, {
            "lead": ((0, 0), (1, 1)),
            "no pair": (),
            "pair": [[0, 0]],
            "pair behind": [(0, 0), [1, 1]],
            "bare": (0, 0),
            "bare list": [0, 0],
            "dict": {0: 0},
            "set": {(0, 0)},
        })

    def test_lengths(self):
        self.assert_no_leads(ROW, RING, {
            "empty": [()],
            "short": [(0,)],
            "long": [(0, 0, 0)],
            "long with a kind": [(0, 0, "a")],
            "behind": [(0, 0), (1, 1, 1)],
        })

    def test_odd_things_in_every_seat(self):
        for name, odd in odd_things().items():
            with self.subTest(name=name):
                for one, other in ((ALONE, ALONE), (("ab", ()), ("ab", ())), (NOWHERE, NOWHERE)):
                    self.assertIs(is_lead(one, other, odd), False)
                    self.assertIs(is_lead(one, other, [odd]), False)
                    self.assertIs(is_lead(one, other, [(0, 0), odd]), False)
                    self.assertIs(is_lead(one, other, [odd, (0, 0)]), False)
                    self.assertIs(is_lead(one, other, [(odd, 0)]), False)
                    self.assertIs(is_lead(one, other, [(0, odd)]), False)
                    self.assertIs(is_lead(one, other, [(odd, odd)]), False)
                    self.assertIs(is_lead(one, other, [(0, 0, odd)]), False)

    def test_things_that_fit_elsewhere(self):
        for thing in ("ab", "", 0, 1, (0, 0), ROW, (), ([],), [[]], [()], [ROW]):
            self.assertIs(is_lead(ROW, ROW, thing), False)

    def test_things_handed_in_stay(self):
        for thing in ([(1, 1), (0, 0)], [(0, 0), (0, 0)], [[0, 0]], [(0, 0), (1, 1)], [([0], [0])]):
            before = repr(thing)
            is_lead(ROW, ROW, thing)
            self.assertEqual(repr(thing), before)

    def test_a_list_is_not_kept(self):
        lead = [(0, 0)]
        self.assertIs(is_lead(ROW, RING, lead), True)
        lead.append((0, 0))
        self.assertIs(is_lead(ROW, RING, lead), False)
        lead.clear()
        self.assertIs(is_lead(ROW, RING, lead), True)

    def test_deep_things_are_told_apart_again(self):
        for thing in (deep(list), [deep(tuple)], [(deep(list), deep(list))]):
            for _ in range(3):
                self.assertIs(is_lead(ROW, RING, thing), False)


class Lies(unittest.TestCase):
    """[8]"""

    def test_edges(self):
        self.assertIs(lies(ROW, RING, []), True)
        self.assertIs(lies(NOWHERE, NOWHERE, []), True)
        self.assertIs(lies(ROW, RING, [(0, 2)]), True)
        self.assertIs(lies(ALONE, ALONE, [(0, 0)]), True)

    def test_ties_of_like_kinds_or_none(self):
        self.assertIs(lies(ROW, RING, [(0, 0), (1, 1)]), True)
        self.assertIs(lies(ROW, RING, [(0, 0), (1, 1), (2, 2)]), True)
        # A tie of another kind, a tie in the second web alone, in the first web alone.
        self.assertIs(lies(ROW, RING, [(2, 2), (3, 3)]), False)
        self.assertIs(lies(ROW, RING, [(0, 0), (3, 3)]), False)
        self.assertIs(lies(("aa", ((0, 1, "x"),)), ("aa", ()), [(0, 0), (1, 1)]), False)
        self.assertIs(lies(("aa", ()), ("aa", ((0, 1, "x"),)), [(0, 0), (1, 1)]), False)
        self.assertIs(lies(("aa", ()), ("aa", ()), [(0, 1), (1, 0)]), True)

    def test_ties_either_way_about(self):
        self.assertIs(lies(ROW, RING, [(0, 2), (1, 1), (2, 0)]), True)
        self.assertIs(lies(ROW, RING, [(2, 0), (3, 3)]), True)

    def test_all_cases(self):
        told = {True: 0, False: 0}
        for one, other, lead in some_cases():
            wanted = plain_lies(one, other, lead)
            self.assertIs(lies(one, other, lead), wanted)
            told[wanted] += 1
        self.assertGreater(min(told.values()), 500)

    def test_one_tie_of_forty_places_counts(self):
        web = full_web("a" * MANY, "t")
        lead = [(place, MANY - 1 - place) for place in range(MANY)]
        self.assertIs(lies(web, web, lead), True)
        for at in (0, 390, 779):
            less = ("a" * MANY, web[1][:at] + web[1][at + 1:])
            turned = ("a" * MANY, web[1][:at] + ((*web[1][at][:2], "u"),) + web[1][at + 1:])
            for changed in (less, turned):
                self.assertIs(lies(web, changed, lead), False)
                self.assertIs(lies(changed, web, lead), False)


class LedTies(unittest.TestCase):
    """[9]"""

    def test_edges(self):
        self.assertEqual(led_ties(ROW, RING, []), [])
        self.assertEqual(led_ties(NOWHERE, NOWHERE, []), [])
        self.assertEqual(led_ties(ROW, RING, [(1, 1)]), [])

    def test_ties_of_the_like_kind(self):
        self.assertEqual(led_ties(ROW, RING, SAME), [(0, 1, "x"), (1, 2, "x")])
        self.assertEqual(led_ties(RING, ROW, SAME), [(0, 1, "x"), (1, 2, "x")])
        self.assertEqual(led_ties(ROW, RING, [(0, 0), (1, 1)]), [(0, 1, "x")])
        self.assertEqual(led_ties(ROW, RING, [(0, 0), (2, 2)]), [])
        self.assertEqual(led_ties(ROW, RING, [(2, 2), (3, 3)]), [])

    def test_ties_are_the_first_webs(self):
        lead = [(1, 3), (2, 0), (3, 1)]
        self.assertEqual(led_ties(RING, ROW, [(0, 2), (1, 1), (3, 3)]), [(0, 1, "x"), (0, 3, "y")])
        self.assertEqual(led_ties(ROW, RING, lead), [])
        self.assertEqual(led_ties(ROW, RING, [(0, 2), (1, 3), (2, 0)]), [(0, 1, "x")])
        self.assertEqual(led_ties(ROW, RING, [(2, 0), (3, 3)]), [(2, 3, "y")])

    def test_all_cases(self):
        longest = 0
        for one, other, lead in some_cases():
            told = led_ties(one, other, lead)
            self.assertIs(type(told), list)
            self.assertEqual(told, plain_led(one, other, lead))
            longest = max(longest, len(told))
        self.assertGreater(longest, 300)

    def test_all_ties_of_forty_places(self):
        web = full_web("a" * MANY, "t")
        lead = [(place, (place + 7) - MANY * (place + 7 >= MANY)) for place in range(MANY)]
        self.assertEqual(led_ties(web, web, lead), list(web[1]))

    def test_told_ties_are_the_askers_own(self):
        told = led_ties(ROW, RING, SAME)
        told.clear()
        again = led_ties(ROW, RING, SAME)
        self.assertEqual(again, [(0, 1, "x"), (1, 2, "x")])
        again.append((2, 3, "y"))
        self.assertEqual(size_of(ROW, RING, SAME, "ties"), 2)
        self.assertEqual(led_ties(ROW, RING, SAME), [(0, 1, "x"), (1, 2, "x")])


class Pieces(unittest.TestCase):
    """[10]"""

    def assert_piece(self, one, other, lead, how, alone, together):
        self.assertIs(is_piece(one, other, lead, how, False), alone)
        self.assertIs(is_piece(one, other, lead, how, True), together)

    def test_no_pair_is_a_piece_by_both(self):
        for one in (NOWHERE, ALONE, ROW, full_web("a" * MANY, "t")):
            for other in (NOWHERE, ALONE, RING):
                for how in ("lies", "ties"):
                    self.assert_piece(one, other, [], how, True, True)
                    self.assertEqual(size_of(one, other, [], how), 0)

    def test_a_single_pair(self):
        for one, other in ((ALONE, ALONE), (ROW, RING)):
            self.assert_piece(one, other, [(0, 0)], "lies", True, True)
            self.assertEqual(size_of(one, other, [(0, 0)], "lies"), 1)
            self.assert_piece(one, other, [(0, 0)], "ties", False, False)

    def test_as_it_lies(self):
        self.assert_piece(ROW, RING, [(0, 0), (1, 1), (2, 2)], "lies", True, True)
        self.assert_piece(ROW, RING, [(0, 0), (2, 2)], "lies", True, False)
        self.assert_piece(ROW, RING, SAME, "lies", False, False)
        self.assertEqual(size_of(ROW, RING, [(0, 0), (1, 1), (2, 2)], "lies"), 3)
        self.assertEqual(size_of(ROW, RING, [(0, 0), (2, 2)], "lies"), 2)

    def test_by_ties(self):
        self.assert_piece(ROW, RING, [(0, 0), (1, 1), (2, 2)], "ties", True, True)
        self.assertEqual(size_of(ROW, RING, [(0, 0), (1, 1), (2, 2)], "ties"), 2)
        # The last place lies on no led tie.
        self.assert_piece(ROW, RING, SAME, "ties", False, False)
        # By ties a piece need not lie: the ring's fourth tie is not the row's.
        bare = ("aaaa", ((0, 1, "x"), (1, 2, "x"), (2, 3, "x")))
        ring = ("aaaa", ((0, 1, "x"), (0, 3, "x"), (1, 2, "x"), (2, 3, "x")))
        for one, other in ((bare, ring), (ring, bare)):
            self.assert_piece(one, other, SAME, "ties", True, True)
            self.assert_piece(one, other, SAME, "lies", False, False)
            self.assertEqual(size_of(one, other, SAME, "ties"), 3)

    def test_by_ties_together_is_by_led_ties_alone(self):
        # The middle tie hangs the first web together, but is of another kind in the second.
        one = ("aaaa", ((0, 1, "x"), (1, 2, "x"), (2, 3, "x")))
        other = ("aaaa", ((0, 1, "x"), (1, 2, "y"), (2, 3, "x")))
        self.assert_piece(one, other, SAME, "ties", True, False)
        self.assertEqual(size_of(one, other, SAME, "ties"), 2)

    def test_as_it_lies_together_is_by_places_of_the_piece_alone(self):
        # The outer places hang together in the whole web, but not without the middle one.
        web = ("aba", ((0, 1, "x"), (1, 2, "x")))
        self.assert_piece(web, web, [(0, 0), (2, 2)], "lies", True, False)
        self.assert_piece(web, web, [(0, 0), (1, 1), (2, 2)], "lies", True, True)

    def test_a_piece_by_ties_of_two_parts(self):
        web = ("aaaa", ((0, 1, "x"), (2, 3, "x")))
        self.assert_piece(web, web, [(0, 2), (1, 3), (2, 0), (3, 1)], "ties", True, False)
        self.assert_piece(web, web, [(0, 2), (1, 3)], "ties", True, True)
        self.assert_piece(web, web, [(0, 0), (1, 1), (2, 2)], "ties", False, False)

    def test_forty_places(self):
        for web in (full_web("a" * MANY, "t"), row_web(MANY), row_web(MANY, turned=True)):
            lead = [(place, place) for place in range(MANY)]
            for how, size in (("lies", MANY), ("ties", len(web[1]))):
                self.assert_piece(web, web, lead, how, True, True)
                self.assertEqual(size_of(web, web, lead, how), size)
        bare = ("a" * MANY, ())
        self.assert_piece(bare, bare, lead, "lies", True, False)
        self.assert_piece(bare, bare, lead, "ties", False, False)

    def test_all_cases(self):
        told = {}
        for one, other, lead in some_cases():
            for how in ("lies", "ties"):
                for together in (True, False):
                    wanted = plain_piece(one, other, lead, how, together)
                    self.assertIs(is_piece(one, other, lead, how, together), wanted)
                    told[how, together, wanted] = told.get((how, together, wanted), 0) + 1
                if wanted:
                    size = len(lead) if how == "lies" else len(plain_led(one, other, lead))
                    self.assertEqual(size_of(one, other, lead, how), size)
        self.assertEqual(len(told), 8)
        self.assertGreater(min(told.values()), 200)


class HandedIn(unittest.TestCase):
    """[1]"""

    def test_leads_stay_and_are_not_kept(self):
        lead = [(0, 0), (1, 1), (2, 2)]
        told = led_ties(ROW, RING, lead)
        is_lead(ROW, RING, lead)
        lies(ROW, RING, lead)
        for how in ("lies", "ties"):
            size_of(ROW, RING, lead, how)
            for together in (True, False):
                is_piece(ROW, RING, lead, how, together)
        self.assertEqual(lead, [(0, 0), (1, 1), (2, 2)])
        lead[:] = [(3, 3)]
        self.assertEqual(told, [(0, 1, "x"), (1, 2, "x")])
        self.assertEqual(led_ties(ROW, RING, lead), [])
        self.assertEqual(size_of(ROW, RING, lead, "lies"), 1)
        self.assertEqual(size_of(ROW, RING, lead, "ties"), 0)
        self.assertIs(is_piece(ROW, RING, lead, "lies", True), True)
        self.assertIs(is_piece(ROW, RING, lead, "ties", True), False)

    def test_webs_stay(self):
        for one in all_webs()[-12:]:
            before = repr(one)
            lead = [(place, place) for place in range(len(one[0]))]
            led_ties(one, one, lead)
            is_piece(one, one, lead, "ties", True)
            self.assertEqual(repr(one), before)


if __name__ == "__main__":
    unittest.main()
