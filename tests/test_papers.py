"""Points [22] to [24], with [1] for them."""

import random
import unittest
from itertools import combinations

from commonweb.lying import greatest_lying
from commonweb.papers import paper_of, says
from tests.plain import plain_cases, plain_best, plain_fit
from tests.samples import (
    ALONE, NOWHERE, chance_web, full_web, near_webs, odd_things, ring_web, row_web, seven_webs,
    small_webs,
)

NONE_OPEN = ("classes", [])
# Two places each, tied in the first web alone: no two pairs fit.
TIED, BARE = ("aa", ((0, 1, "x"),)), ("aa", ())
FOUR = [(0, 0), (0, 1), (1, 0), (1, 1)]
ROW = ("aaa", ((0, 1, "x"), (1, 2, "x")))


def plain_pairs(one, other):
    return [(place, end) for place in range(len(one[0])) for end in range(len(other[0]))
            if one[0][place] == other[0][end]]


def plain_says(one, other, paper, opened):
    """What a thing that has a paper's words and seats says for the open pairs, or None."""
    if paper[0] == "classes":
        for row in paper[1]:
            if any(pair not in opened for pair in row):
                return None
            if any(plain_fit(one, other, *two) for two in combinations(set(row), 2)):
                return None
        return len(paper[1]) if {pair for row in paper[1] for pair in row} == set(opened) else None
    _, pair, with_it, without_it = paper
    if pair not in opened:
        return None
    fitting = [beside for beside in opened if plain_fit(one, other, pair, beside)]
    said_with = plain_says(one, other, with_it, fitting)
    said_without = plain_says(one, other, without_it, [beside for beside in opened if beside != pair])
    if said_with is None or said_without is None:
        return None
    return max(said_with + 1, said_without)


def chance_paper(chance, one, other, opened, levels):
    """A paper for the open pairs, with some pairs twice and some classes empty."""
    if not opened or not levels or not chance.randrange(4):
        classes = [[] for _ in range(chance.randrange(3))]
        for pair in chance.sample(opened, len(opened)):
            for row in classes:
                if not any(plain_fit(one, other, pair, beside) for beside in row) and chance.randrange(5):
                    row.append(pair)
                    break
            else:
                classes.append([pair])
        for row in classes:
            if row and not chance.randrange(4):
                row.append(chance.choice(row))
        return ("classes", classes)
    pair = chance.choice(opened)
    fitting = [beside for beside in opened if plain_fit(one, other, pair, beside)]
    left = [beside for beside in opened if beside != pair]
    return ("pair", pair, chance_paper(chance, one, other, fitting, levels - 1),
            chance_paper(chance, one, other, left, levels - 1))


def hurt(chance, paper, every):
    """The paper with one pair added, taken away or turned into another one, somewhere in it."""
    if paper[0] == "pair":
        seat = chance.randrange(1, 4)
        if seat == 1:
            return ("pair", chance.choice(every), *paper[2:])
        return tuple(hurt(chance, part, every) if at == seat else part for at, part in enumerate(paper))
    classes = [list(row) for row in paper[1]]
    if not classes:
        return ("classes", [[chance.choice(every)]])
    row = chance.choice(classes)
    if row and chance.randrange(2):
        row.pop(chance.randrange(len(row)))
    if not row or chance.randrange(2):
        row.append(chance.choice(every))
    return ("classes", classes)


def chain(one, other, levels, opened=None):
    """A paper of so many papers within one another, on the side without the pair."""
    opened = plain_pairs(one, other) if opened is None else opened
    if levels == 1:
        return ("classes", [[pair] for pair in opened])
    fitting = [beside for beside in opened if plain_fit(one, other, opened[0], beside)]
    return ("pair", opened[0], ("classes", [[pair] for pair in fitting]), chain(one, other, levels - 1, opened[1:]))


class Says(unittest.TestCase):
    """[22], [23]"""

    def assert_none(self, one, other, things):
        for name, thing in things.items():
            with self.subTest(name=name):
                self.assertIsNone(says(one, other, thing))

    def assert_says(self, one, other, thing, number):
        told = says(one, other, thing)
        self.assertEqual(told, number)
        self.assertIs(type(told), int)

    def test_nothing_open(self):
        for one, other in ((NOWHERE, NOWHERE), (NOWHERE, ROW), (ROW, NOWHERE), (ROW, ("bbb", ()))):
            self.assert_says(one, other, NONE_OPEN, 0)
            self.assert_says(one, other, ("classes", [[]]), 1)
            self.assert_says(one, other, ("classes", [[], [], []]), 3)
            self.assert_none(one, other, {
                "pair": ("pair", (0, 0), NONE_OPEN, NONE_OPEN), "class": ("classes", [[(0, 0)]]),
            })
        self.assert_none(ALONE, ALONE, {"none": NONE_OPEN, "empty": ("classes", [[]])})

    def test_classes(self):
        self.assert_says(ALONE, ALONE, ("classes", [[(0, 0)]]), 1)
        self.assert_says(TIED, BARE, ("classes", [FOUR]), 1)
        self.assert_says(TIED, BARE, ("classes", [FOUR[::-1]]), 1)
        self.assert_says(TIED, BARE, ("classes", [[pair] for pair in FOUR]), 4)
        self.assert_says(BARE, BARE, ("classes", [FOUR[:2], FOUR[2:]]), 2)
        self.assert_says(BARE, BARE, ("classes", [[(1, 1), (0, 1)], [(1, 0), (0, 0)]]), 2)

    def test_a_class_may_be_empty(self):
        self.assert_says(BARE, BARE, ("classes", [[], FOUR[:2], [], FOUR[2:]]), 4)
        self.assert_says(TIED, BARE, ("classes", [FOUR, []]), 2)

    def test_a_pair_may_stand_twice(self):
        self.assert_says(TIED, BARE, ("classes", [FOUR + FOUR]), 1)
        self.assert_says(BARE, BARE, ("classes", [[(0, 0), (0, 0), (0, 1)], FOUR[2:]]), 2)
        self.assert_says(BARE, BARE, ("classes", [[(0, 0), (0, 1)], [(0, 0), (1, 0)], FOUR[2:]]), 3)

    def test_each_open_pair_is_in_a_class(self):
        self.assert_none(TIED, BARE, {
            "no class": NONE_OPEN, "empty": ("classes", [[]]), "three": ("classes", [FOUR[:3]]),
            "three and one twice": ("classes", [FOUR[:3], [FOUR[0]]]),
        })
        for at in range(4):
            self.assertIsNone(says(BARE, BARE, ("classes", [[pair] for pair in FOUR[:at] + FOUR[at + 1:]])))

    def test_no_two_of_a_class_fit(self):
        self.assert_none(BARE, BARE, {
            "all": ("classes", [FOUR]),
            "two": ("classes", [[(0, 0), (1, 1)], [(0, 1)], [(1, 0)]]),
            "three": ("classes", [[(0, 0), (0, 1), (1, 0)], [(1, 1)]]),
            "the other two": ("classes", [[(1, 0), (0, 1)], [(0, 0)], [(1, 1)]]),
            "apart": ("classes", [[(0, 0), (0, 1), (0, 0), (1, 1)], [(1, 0)]]),
        })
        self.assert_says(TIED, TIED, ("classes", [FOUR[:2], FOUR[2:]]), 2)
        self.assert_none(TIED, TIED, {"all": ("classes", [FOUR])})

    def test_a_pair_that_is_not_open(self):
        self.assert_none(BARE, BARE, {
            "beyond": ("classes", [FOUR[:2], FOUR[2:], [(2, 0)]]),
            "below": ("classes", [FOUR[:2], FOUR[2:], [(0, -1)]]),
            "pair": ("pair", (0, 2), NONE_OPEN, ("classes", [FOUR[:2], FOUR[2:]])),
            # With (0, 0) only (1, 1) is open, and without it (0, 0) is not.
            "with": ("pair", (0, 0), ("classes", [[(1, 1)], [(0, 1)]]), ("classes", [[(0, 1)], FOUR[2:]])),
            "with itself": ("pair", (0, 0), ("classes", [[(1, 1)], [(0, 0)]]), ("classes", [[(0, 1)], FOUR[2:]])),
            "without": ("pair", (0, 0), ("classes", [[(1, 1)]]), ("classes", [[(0, 1), (0, 0)], FOUR[2:]])),
            "within": ("pair", (0, 0), ("classes", [[(1, 1)]]),
                       ("pair", (0, 0), NONE_OPEN, ("classes", [[(0, 1)], FOUR[2:]]))),
        })
        self.assert_none(("ab", ()), ("ab", ()), {"kinds": ("classes", [[(0, 0)], [(1, 1)], [(0, 1)]])})

    def test_truths_are_no_places(self):
        self.assert_says(ALONE, ALONE, ("pair", (0, 0), NONE_OPEN, NONE_OPEN), 1)
        self.assert_none(ALONE, ALONE, {
            "class": ("classes", [[(False, 0)]]), "other": ("classes", [[(0, False)]]),
            "both": ("classes", [[(0, 0), (False, False)]]),
            "pair": ("pair", (False, 0), NONE_OPEN, NONE_OPEN),
            "pair's other": ("pair", (0, False), NONE_OPEN, NONE_OPEN),
        })
        self.assert_none(BARE, BARE, {
            "true": ("classes", [FOUR[:2], [(1, 0), (1, True)]]),
            "true pair": ("pair", (True, 1), ("classes", [[(0, 0)]]), ("classes", [FOUR[:2], [(1, 0)]])),
        })

    def test_pairs(self):
        with_it, without_it = ("classes", [[(1, 1)]]), ("classes", [[(0, 1)], FOUR[2:]])
        self.assert_says(BARE, BARE, ("pair", (0, 0), with_it, without_it), 2)
        self.assert_says(BARE, BARE, ("pair", (0, 0), ("classes", [[], [], [(1, 1)]]), without_it), 4)
        self.assert_says(BARE, BARE, ("pair", (0, 0), with_it, ("classes", [[], [], [], *without_it[1]])), 5)
        self.assert_says(TIED, BARE, ("pair", (1, 0), NONE_OPEN, ("classes", [[FOUR[0], FOUR[1], FOUR[3]]])), 1)
        deeper = ("pair", (1, 0), ("classes", [[(0, 1)]]), ("classes", [[(0, 1), (1, 1)]]))
        self.assert_says(BARE, BARE, ("pair", (0, 0), ("pair", (1, 1), NONE_OPEN, NONE_OPEN), deeper), 2)

    def test_with_and_without_are_read_in_their_seats(self):
        with_it, without_it = ("classes", [[(1, 1)]]), ("classes", [[(0, 1)], FOUR[2:]])
        self.assert_none(BARE, BARE, {
            "about": ("pair", (0, 0), without_it, with_it),
            "with twice": ("pair", (0, 0), with_it, with_it),
            "without twice": ("pair", (0, 0), without_it, without_it),
            "none with": ("pair", (0, 0), NONE_OPEN, without_it),
            "none without": ("pair", (0, 0), with_it, NONE_OPEN),
        })

    def test_sixty_papers_within_one_another(self):
        # So many pairs stand beyond the size of webs for which papers are promised.
        web = ("a" * 8, ())
        for levels in (1, 2, 40, 59, 60):
            self.assertEqual(says(web, web, chain(web, web, levels)), plain_says(
                web, web, chain(web, web, levels), plain_pairs(web, web)))
            self.assertIsNotNone(says(web, web, chain(web, web, levels)))
        for levels in (61, 62, 65):
            self.assertIsNone(says(web, web, chain(web, web, levels)))
        web = ("a" * 7, ())
        self.assertIsNotNone(says(web, web, chain(web, web, 50)))

    def test_more_than_sixty_papers_on_the_side_with_the_pair(self):
        thing = NONE_OPEN
        for _ in range(61):
            thing = ("pair", (0, 0), thing, NONE_OPEN)
        self.assert_none(ALONE, ALONE, {"with": thing})
        web = ("a" * 9, ())
        every = plain_pairs(web, web)
        fitting = [pair for pair in every if plain_fit(web, web, every[0], pair)]
        without = ("classes", [[pair] for pair in every[1:]])
        for levels in (58, 59):
            thing = ("pair", every[0], chain(web, web, levels, fitting), without)
            self.assertEqual(says(web, web, thing), plain_says(web, web, thing, every))
            self.assertIsNotNone(says(web, web, thing))
        self.assert_none(web, web, {"sixty-one": ("pair", every[0], chain(web, web, 60, fitting), without)})

    def test_words_and_lengths(self):
        good = [FOUR]
        self.assert_none(TIED, BARE, {
            "other word": ("class", good), "upper": ("Classes", good), "empty word": ("", good),
            "blank": ("classes ", good), "bytes": (b"classes", good), "no word": (good,),
            "word in a list": (["classes"], good),
            "word alone": ("classes",), "pair alone": ("pair",), "text": "classes", "empty": (),
            "one more": ("classes", good, good),
            "pair's word": ("pair", good),
            "classes' word": ("classes", FOUR[0], NONE_OPEN, ("classes", [FOUR[1:]])),
            "short pair": ("pair", FOUR[0], NONE_OPEN),
            "long pair": ("pair", FOUR[0], NONE_OPEN, ("classes", [FOUR[1:]]), NONE_OPEN),
        })
        self.assert_says(TIED, BARE, ("pair", FOUR[0], NONE_OPEN, ("classes", [FOUR[1:]])), 1)

    def test_tuples_and_lists_differ(self):
        self.assert_none(TIED, BARE, {
            "list": ["classes", [FOUR]], "tuple of classes": ("classes", (FOUR,)),
            "tuple for a class": ("classes", [tuple(FOUR)]),
            "list for a pair": ("classes", [[list(pair) for pair in FOUR]]),
            "bare class": ("classes", FOUR), "bare pair": ("classes", [FOUR, (0, 0)]),
            "dict": ("classes", {0: FOUR}),
            "list paper": ["pair", FOUR[0], NONE_OPEN, ("classes", [FOUR[1:]])],
            "pair's list": ("pair", [0, 0], NONE_OPEN, ("classes", [FOUR[1:]])),
            "with a list": ("pair", FOUR[0], ["classes", []], ("classes", [FOUR[1:]])),
            "without a list": ("pair", FOUR[0], NONE_OPEN, ["classes", [FOUR[1:]]]),
            "tuple of none": ("pair", FOUR[0], ("classes", ()), ("classes", [FOUR[1:]])),
            "long pair": ("classes", [[(*pair, 0) for pair in FOUR]]),
            "short pair": ("classes", [FOUR + [(0,)]]),
        })

    def test_odd_things_in_every_seat(self):
        good = ("pair", FOUR[0], NONE_OPEN, ("classes", [FOUR[1:]]))
        for name, odd in odd_things().items():
            with self.subTest(name=name):
                for one, other in ((TIED, BARE), (ALONE, ALONE), (NOWHERE, NOWHERE)):
                    self.assertIsNone(says(one, other, odd))
                    self.assertIsNone(says(one, other, (odd,)))
                    self.assertIsNone(says(one, other, ("classes", odd)))
                    self.assertIsNone(says(one, other, (odd, [])))
                    self.assertIsNone(says(one, other, ("classes", [], odd)))
                    self.assertIsNone(says(one, other, ("classes", [odd])))
                    self.assertIsNone(says(one, other, ("classes", [[odd]])))
                for seat in range(4):
                    self.assertIsNone(says(TIED, BARE, (*good[:seat], odd, *good[seat + 1:])))
                self.assertIsNone(says(TIED, BARE, (*good, odd)))
                self.assertIsNone(says(TIED, BARE, ("classes", [FOUR, odd])))
                self.assertIsNone(says(TIED, BARE, ("classes", [[*FOUR, odd]])))
                self.assertIsNone(says(TIED, BARE, ("classes", [[odd, *FOUR]])))
                self.assertIsNone(says(TIED, BARE, ("classes", [FOUR + [(0, odd)]])))
                self.assertIsNone(says(TIED, BARE, ("classes", [FOUR + [(odd, 0)]])))

    def test_papers_thousands_deep(self):
        things = {"with": NONE_OPEN, "without": NONE_OPEN, "both": NONE_OPEN, "classes": NONE_OPEN, "lists": []}
        for _ in range(20000):
            things = {
                "with": ("pair", (0, 0), things["with"], NONE_OPEN),
                "without": ("pair", (0, 0), NONE_OPEN, things["without"]),
                "both": ("pair", (0, 0), things["both"], things["both"]),
                "classes": ("classes", [things["classes"]]),
                "lists": ("classes", [[things["lists"]]]),
            }
        for one, other in ((TIED, BARE), (ALONE, ALONE), (("a" * 7, ()), ("a" * 7, ()))):
            self.assert_none(one, other, things)

    def test_papers_in_many_places(self):
        """One paper stands on both sides of the next one: read as a tree it has no end."""
        web = ("a" * 7, ())
        thing = NONE_OPEN
        for at in range(3000):
            thing = ("pair", (at // 7 % 7, at % 7), thing, thing)
        self.assertIsNone(says(web, web, thing))
        ring = ["pair", (0, 0), NONE_OPEN, NONE_OPEN]
        ring[2] = ring[3] = tuple(ring)
        self.assertIsNone(says(web, web, tuple(ring)))

    def test_chance_papers(self):
        chance = random.Random(22)
        few = small_webs(3)
        told = {}
        for turn in range(900):
            one, other = chance.choice(few), chance.choice(few)
            if turn % 3 == 0:
                one, other = chance_web(chance, 4, "ab", "t", 5), chance_web(chance, 5, "a", "t", 5)
            every = plain_pairs(one, other)
            paper = chance_paper(chance, one, other, every, chance.randrange(6))
            number = plain_says(one, other, paper, every)
            self.assert_says(one, other, paper, number)
            self.assertGreaterEqual(number, greatest_lying(one, other)[0])
            for _ in range(4 if every else 0):
                paper = hurt(chance, paper, every)
                wanted = plain_says(one, other, paper, every)
                self.assertEqual(says(one, other, paper), wanted)
                told[wanted is None] = told.get(wanted is None, 0) + 1
        self.assertGreater(min(told[True], told[False]), 200)

    def test_things_stay_and_are_not_kept(self):
        paper = ("pair", (0, 0), ("classes", [[(1, 1)]]), ("classes", [[(0, 1)], FOUR[2:]]))
        before = repr(paper)
        for _ in range(2):
            self.assert_says(BARE, BARE, paper, 2)
            self.assertEqual(repr(paper), before)
        paper[3][1].append([])
        self.assert_says(BARE, BARE, paper, 3)
        paper[2][1][0].clear()
        self.assertIsNone(says(BARE, BARE, paper))


class PaperOf(unittest.TestCase):
    """[24]"""

    def assert_paper(self, one, other, size):
        paper = paper_of(one, other)
        self.assertEqual(says(one, other, paper), size)
        self.assertEqual(plain_says(one, other, paper, plain_pairs(one, other)), size)
        return paper

    def test_edges(self):
        for one, other in ((NOWHERE, NOWHERE), (NOWHERE, row_web(7)), (ROW, ("bbb", ()))):
            self.assertEqual(self.assert_paper(one, other, 0), NONE_OPEN)
        self.assertEqual(self.assert_paper(ALONE, ALONE, 1), ("classes", [[(0, 0)]]))
        self.assert_paper(TIED, BARE, 1)
        self.assert_paper(BARE, TIED, 1)
        self.assert_paper(TIED, TIED, 2)

    def test_held_against_all_leads(self):
        words = {}
        for one, other in plain_cases()[::2]:
            paper = self.assert_paper(one, other, plain_best(one, other)["lies", False].size)
            words[paper[0]] = words.get(paper[0], 0) + 1
        self.assertGreater(min(words["classes"], words["pair"]), 20)

    def test_webs_of_seven_places(self):
        for one in seven_webs():
            for other in seven_webs():
                self.assertEqual(says(one, other, paper_of(one, other)), greatest_lying(one, other)[0])
        for one in seven_webs()[::4]:
            for other in seven_webs()[1::3]:
                self.assert_paper(one, other, greatest_lying(one, other)[0])

    def test_near_webs(self):
        chance = random.Random(24)
        for kinds, tie_kinds, share in (("a", "t", 3), ("a", "t", 6), ("ab", "tu", 5)):
            one = chance_web(chance, 7, kinds, tie_kinds, share)
            for other in near_webs(chance, one):
                self.assertEqual(says(one, other, paper_of(one, other)), greatest_lying(one, other)[0])
                self.assertEqual(says(other, one, paper_of(other, one)), greatest_lying(one, other)[0])

    def test_a_paper_of_other_webs_is_mostly_none(self):
        paper = paper_of(row_web(7), ring_web(7))
        self.assertEqual(says(row_web(7), ring_web(7), paper), 6)
        self.assertIsNone(says(row_web(6), ring_web(7), paper))
        self.assertIsNone(says(("a" * 7, ()), ("a" * 7, ()), paper))

    def lists_in(self, thing):
        """All lists in the thing, itself too, each as often as it stands there."""
        told = [thing] if type(thing) is list else []
        if type(thing) in (list, tuple):
            for part in thing:
                told += self.lists_in(part)
        return told

    def test_told_papers_are_the_askers_own(self):
        for one, other in ((row_web(5), ring_web(5)), (NOWHERE, NOWHERE), (row_web(7), full_web("a" * 7, "tu"))):
            before = repr((one, other))
            paper = paper_of(one, other)
            wanted = repr(paper)
            lists = self.lists_in(paper)
            self.assertEqual(len({id(held) for held in lists}), len(lists))
            for held in lists:
                held.clear()
            self.assertEqual(repr(paper_of(one, other)), wanted)
            self.assertEqual(says(one, other, paper_of(one, other)), greatest_lying(one, other)[0])
            self.assertEqual(repr((one, other)), before)


if __name__ == "__main__":
    unittest.main()
