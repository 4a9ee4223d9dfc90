"""Points [1] and [2] over the whole program: what its parts tell of the same things agrees."""

import ast
import copy
import importlib
import pathlib
import random
import unittest

import commonweb
from commonweb.byties import greatest_by_ties
from commonweb.changes import done, least_changes
from commonweb.counts import by_degrees, by_kinds, by_tie_kinds, ties_bound
from commonweb.leads import is_lead, is_piece, size_of
from commonweb.lines import common_stretch, shape_of
from commonweb.lying import count_lying, greatest_lying
from commonweb.papers import paper_of, says
from commonweb.sameness import onto_itself, plain, same_lead
from commonweb.several import common_of
from commonweb.shares import distance, joined_size, nearest
from commonweb.texts import read_web, show_web
from commonweb.together import together_by_ties, together_lying
from commonweb.trees import common_tree, is_tree
from tests.samples import NOWHERE, chance_web, near_webs, ring_web, row_web, seven_webs, star_web
from tests.shapes import chance_tree, shuffled
from tests.test_interface import FUNCTIONS

PACKAGE = pathlib.Path(commonweb.__file__).resolve().parent
ROW, RING, STAR = row_web(4), ring_web(4), star_web(4)
TABLE = [[3, 1, 0], [2, 4, 4]]
# A call of each function of the interface, by file and name.
CALLS = {
    "webs.is_web": (ROW,),
    "webs.tie_of": (ROW, 1, 0),
    "webs.neighbours": (ROW, 1),
    "webs.parts": (ROW,),
    "webs.hangs": (ROW,),
    "webs.cut": (ROW, [3, 0, 2]),
    "leads.is_lead": (ROW, RING, [(0, 0), (1, 1)]),
    "leads.lies": (ROW, RING, [(0, 0), (1, 1)]),
    "leads.led_ties": (ROW, RING, [(0, 0), (1, 1)]),
    "leads.is_piece": (ROW, RING, [(0, 0), (1, 1)], "ties", True),
    "leads.size_of": (ROW, RING, [(0, 0), (1, 1)], "ties"),
    "fits.pairs": (ROW, RING),
    "fits.fit": (ROW, RING, (0, 0), (1, 1)),
    "lying.greatest_lying": (ROW, RING),
    "lying.count_lying": (ROW, RING),
    "byties.greatest_by_ties": (ROW, RING),
    "byties.count_by_ties": (ROW, RING),
    "together.together_lying": (ROW, RING),
    "together.together_by_ties": (ROW, RING),
    "counts.by_kinds": (ROW, RING),
    "counts.by_tie_kinds": (ROW, RING),
    "counts.by_degrees": (ROW, RING),
    "counts.ties_bound": (ROW, RING),
    "papers.paper_of": (ROW, RING),
    "papers.says": (ROW, RING, paper_of(ROW, RING)),
    "matchings.best_matching": (TABLE,),
    "matchings.is_best": (TABLE, (7, [(0, 0), (1, 1)], [3, 4], [0, 0, 0])),
    "trees.is_tree": (ROW,),
    "trees.common_tree": (ROW, STAR),
    "trees.middle": (ROW,),
    "lines.shape_of": (ROW,),
    "lines.along": (RING,),
    "lines.common_stretch": (ROW, RING),
    "sameness.same_lead": (ROW, ROW),
    "sameness.plain": (ROW,),
    "sameness.onto_itself": (ROW,),
    "sameness.marks": (ROW,),
    "shares.distance": (ROW, RING),
    "shares.joined_size": (ROW, RING),
    "shares.nearest": (ROW, [STAR, RING]),
    "several.common_of": ([ROW, RING, STAR],),
    "changes.done": (ROW, [("untie", 0, 1), ("drop", 0)]),
    "changes.least_changes": (ROW, STAR),
    "texts.show_web": (ROW,),
    "texts.read_web": ("place a\nplace b\ntie 0 1 x\n",),
}


def spoil(thing):
    """Empties every list within the thing."""
    if isinstance(thing, (list, tuple)):
        for part in thing:
            spoil(part)
    if isinstance(thing, list):
        thing.clear()
        thing.append("spoilt")


def lists_in(thing):
    """The lists in a thing, itself included."""
    told = [thing] if isinstance(thing, list) else []
    if isinstance(thing, (list, tuple)):
        for part in thing:
            told += lists_in(part)
    return told


class Calls(unittest.TestCase):
    """[1]"""

    def each_call(self):
        for name, arguments in CALLS.items():
            file, function = name.split(".")
            with self.subTest(name=name):
                yield getattr(importlib.import_module("commonweb." + file), function), copy.deepcopy(arguments)

    def test_there_is_a_call_of_each_function(self):
        named = [module + "." + name for module, functions in FUNCTIONS.items() for name in functions]
        self.assertEqual(sorted("commonweb." + name for name in CALLS), sorted(named))

    def test_nothing_that_is_handed_in_is_changed(self):
        for function, arguments in self.each_call():
            before = copy.deepcopy(arguments)
            function(*arguments)
            self.assertEqual(arguments, before)

    def test_what_is_told_is_the_askers_own(self):
        for function, arguments in self.each_call():
            wanted = copy.deepcopy(function(*arguments))
            told = function(*arguments)
            self.assertEqual(told, wanted)
            handed = [id(thing) for thing in lists_in(arguments)]
            own = [id(thing) for thing in lists_in(told)]
            self.assertEqual(len(set(own)), len(own))
            self.assertFalse(set(own) & set(handed))
            spoil(told)
            self.assertEqual(function(*arguments), wanted)

    def test_what_becomes_of_a_list_behind_the_call_changes_nothing(self):
        for function, arguments in self.each_call():
            told = function(*arguments)
            wanted = copy.deepcopy(told)
            again = copy.deepcopy(arguments)
            spoil(arguments)
            self.assertEqual(told, wanted)
            self.assertEqual(function(*again), wanted)

    def test_no_clock_chance_or_files(self):
        for path in PACKAGE.glob("*.py"):
            for node in ast.walk(ast.parse(path.read_text(encoding="utf-8"))):
                if isinstance(node, ast.ImportFrom):
                    self.assertIn(node.module.split(".")[0], ("commonweb", "itertools", "math"))
                if isinstance(node, ast.Name):
                    self.assertNotIn(node.id, ("open", "print", "input", "exec", "eval", "hash", "id"))

    def test_the_same_once_as_ever(self):
        for function, arguments in self.each_call():
            self.assertEqual(repr(function(*arguments)), repr(function(*copy.deepcopy(arguments))))


class Agreement(unittest.TestCase):
    """[2], and where one point speaks of another one."""

    def two_webs(self):
        chance = random.Random(2)
        for one in seven_webs()[:6] + [chance_web(chance, 7, "ab", "tu", share) for share in (1, 4, 7)]:
            for other in (*near_webs(chance, one)[-3:], shuffled(chance, one), chance_web(chance, 5, "ab", "tu", 5),
                    NOWHERE):
                yield one, other

    def test_four_measures_a_paper_and_bounds(self):
        for one, other in self.two_webs():
            for found, how, together in (
                (greatest_lying, "lies", False), (greatest_by_ties, "ties", False),
                (together_lying, "lies", True), (together_by_ties, "ties", True),
            ):
                size, lead = found(one, other)
                self.assertTrue(is_lead(one, other, lead) and is_piece(one, other, lead, how, together))
                self.assertEqual(size_of(one, other, lead, how), size)
            self.assertEqual(says(one, other, paper_of(one, other)), greatest_lying(one, other)[0])
            self.assertLessEqual(greatest_lying(one, other)[0], by_kinds(one, other))
            self.assertLessEqual(greatest_by_ties(one, other)[0], ties_bound(one, other))
            self.assertEqual(ties_bound(one, other), min(by_tie_kinds(one, other), by_degrees(one, other)))

    def test_sameness_told_in_many_ways(self):
        for one, other in self.two_webs():
            lead = same_lead(one, other)
            same = lead is not None
            self.assertEqual(plain(one) == plain(other), same)
            self.assertEqual(distance(one, other) == (0, 1), same)
            self.assertEqual(nearest(one, [other, one]), 0 if same else 1)
            self.assertEqual(joined_size(one, other) == len(one[0]) == len(other[0]), same)
            if same:
                self.assertEqual(greatest_lying(one, other), (len(one[0]), lead))
                self.assertEqual(count_lying(one, other), onto_itself(one))
            if max(len(one[0]), len(other[0])) <= 5:
                self.assertEqual(least_changes(one, other)[0] == 0, same)

    def test_trees_rows_and_rings_are_as_other_webs(self):
        chance = random.Random(3)
        for _ in range(20):
            one, other = chance_tree(chance, 7, "ab", "t"), chance_tree(chance, 6, "ab", "t", 2)
            self.assertTrue(is_tree(one) and is_tree(other))
            self.assertEqual(common_tree(one, other)[0], together_lying(one, other)[0])
        for one in (row_web(7), ring_web(7), row_web(6, turned=True), shuffled(chance, ring_web(6))):
            for other in (row_web(7), ring_web(7), shuffled(chance, ring_web(5)), row_web(1)):
                self.assertIsNotNone(shape_of(one))
                self.assertEqual(common_stretch(one, other), together_lying(one, other))

    def test_two_of_several(self):
        chance = random.Random(4)
        for _ in range(20):
            one, other = chance_web(chance, 5, "ab", "t", 5), chance_web(chance, 5, "ab", "t", 5)
            size, leads = common_of([one, other])
            self.assertEqual(size, greatest_lying(one, other)[0])
            # The first places come first here, so that it may be another lead.
            self.assertTrue(is_piece(one, other, leads[1], "lies", False))

    def test_what_was_told_may_be_handed_on(self):
        chance = random.Random(5)
        for _ in range(20):
            one, other = chance_web(chance, 5, "ab", "t", 5), chance_web(chance, 5, "ab", "t", 3)
            again = done(one, least_changes(one, other)[1])
            self.assertEqual(plain(read_web(show_web(again))), plain(other))


if __name__ == "__main__":
    unittest.main()
