"""Points [47] to [49], with [1] for them."""

import copy
import functools
import random
import unittest
from itertools import combinations, permutations

from commonweb.changes import done, least_changes
from commonweb.errors import NoDeed, WebError
from commonweb.sameness import same_lead
from commonweb.webs import is_web
from tests.plain import small_cases
from tests.samples import (
    ALONE, LETTERS, MANY, MIXED, NOWHERE, Sly, chance_web, chance_webs, deep, full_web, near_webs, odd_things,
    plain_tie,
    renamed, ring_web, row_web, small_webs, star_web,
)
from tests.shapes import shuffled

ROW = ("aba", ((0, 1, "x"), (1, 2, "y")))


class Text(str):
    pass


class Number(int):
    pass


class Row(list):
    pass


class Pair(tuple):
    pass


def plain_done(web, deeds):
    """The web behind good deeds, or None where one can't be done, by lists of places and ties."""
    places = [[place, kind] for place, kind in enumerate(web[0])]
    ties = [list(tie) for tie in web[1]]
    ever = len(places)
    for word, *parts in deeds:
        here = [place for place, _ in places]
        ends = [tie[:2] for tie in ties]
        if word == "new":
            places.append([ever, parts[0]])
            ever += 1
        elif word == "drop" and parts[0] in here and not any(parts[0] in pair for pair in ends):
            del places[here.index(parts[0])]
        elif word == "turn" and parts[0] in here and places[here.index(parts[0])][1] != parts[1]:
            places[here.index(parts[0])][1] = parts[1]
        elif word == "untie" and parts in ends:
            del ties[ends.index(parts)]
        elif word == "tie" and parts[0] in here and parts[1] in here and parts[0] < parts[1] and parts[:2] not in ends:
            ties.append(parts)
        elif word == "retie" and parts[:2] in ends and ties[ends.index(parts[:2])][2] != parts[2]:
            ties[ends.index(parts[:2])] = parts
        else:
            return None
    here = [place for place, _ in places]
    left = sorted((here.index(place), here.index(other), kind) for place, other, kind in ties)
    return "".join(kind for _, kind in places), tuple(left)


def chance_deed(chance, many):
    """A deed that may or may not be done, of about so many places."""
    place, other = chance.randrange(many + 1), chance.randrange(many + 1)
    word = chance.choice(["untie", "drop", "turn", "new", "tie", "retie"])
    kind = chance.choice("ab")
    parts = {"untie": [place, other], "drop": [place], "turn": [place, kind], "new": [kind]}
    return (word, *parts.get(word, [place, other, kind]))


@functools.lru_cache(maxsize=None)
def plain_form(web):
    """One web for all that are the same, by trying all orders."""
    return min(renamed(web, order) for order in permutations(range(len(web[0]))))


def one_deed_on(web, kinds, tie_kinds, most):
    """The forms of all webs that one deed makes of this one, up to so many places."""
    many = len(web[0])
    deeds = [("drop", place) for place in range(many)]
    deeds += [("turn", place, kind) for place in range(many) for kind in kinds]
    deeds += [("new", kind) for kind in kinds if many < most]
    for pair in combinations(range(many), 2):
        deeds.append(("untie", *pair))
        deeds += [(word, *pair, kind) for word in ("tie", "retie") for kind in tie_kinds]
    told = [plain_done(web, [deed]) for deed in deeds]
    return {plain_form(further) for further in told if further is not None}


def all_numbers(webs, kinds, tie_kinds, most):
    """For each form of these webs the least number of deeds to each other one, by going on deed by deed."""
    forms = {plain_form(web) for web in webs}
    further = functools.lru_cache(maxsize=None)(lambda web: one_deed_on(web, kinds, tie_kinds, most))
    told = {}
    for start in forms:
        numbers, front = {start: 0}, [start]
        while front:
            ahead = []
            for web in front:
                for form in further(web):
                    if form not in numbers:
                        numbers[form] = numbers[web] + 1
                        ahead.append(form)
            front = ahead
        told[start] = {form: numbers[form] for form in forms}
    return told


def plain_number(one, other):
    """The least number, by trying which places become which; all else is dropped or new."""
    told = []
    for size in range(min(len(one[0]), len(other[0])) + 1):
        for places in combinations(range(len(one[0])), size):
            for ends in permutations(range(len(other[0])), size):
                told.append(number_by(one, other, dict(zip(places, ends))))
    return min(told)


def number_by(one, other, becomes):
    many = len(one[0]) + len(other[0]) - 2 * len(becomes)
    many += sum(one[0][place] != other[0][end] for place, end in becomes.items())
    kept = 0
    for pair in combinations(sorted(becomes), 2):
        here, there = plain_tie(one, *pair), plain_tie(other, becomes[pair[0]], becomes[pair[1]])
        kept += (here is not None) + (there is not None)
        many += here != there
    return many + len(one[1]) + len(other[1]) - kept


class Done(unittest.TestCase):
    """[47]"""

    def assert_done(self, web, deeds, wanted):
        before = copy.deepcopy(deeds)
        told = done(web, deeds)
        self.assertEqual(told, wanted, (web, deeds))
        self.assertIs(is_web(told), True)
        self.assertEqual(deeds, before)

    def refuse(self, web, deeds):
        with self.assertRaises(NoDeed):
            done(web, deeds)

    def test_nothing_done(self):
        for web in (NOWHERE, ALONE, ROW, MIXED, *small_webs(3), *chance_webs()):
            self.assert_done(web, [], web)

    def test_each_deed(self):
        self.assert_done(ROW, [("untie", 0, 1)], ("aba", ((1, 2, "y"),)))
        self.assert_done(ROW, [("turn", 1, "z")], ("aza", ROW[1]))
        self.assert_done(ROW, [("new", "c")], ("abac", ROW[1]))
        self.assert_done(ROW, [("tie", 0, 2, "z")], ("aba", ((0, 1, "x"), (0, 2, "z"), (1, 2, "y"))))
        self.assert_done(ROW, [("retie", 1, 2, "x")], ("aba", ((0, 1, "x"), (1, 2, "x"))))
        self.assert_done(("abc", ((0, 2, "x"),)), [("drop", 1)], ("ac", ((0, 1, "x"),)))

    def test_one_behind_the_other(self):
        self.assert_done(ROW, [("untie", 0, 1), ("drop", 0)], ("ba", ((0, 1, "y"),)))
        self.assert_done(ROW, [("untie", 0, 1), ("tie", 0, 1, "z")], ("aba", ((0, 1, "z"), (1, 2, "y"))))
        self.assert_done(ROW, [("retie", 0, 1, "z"), ("retie", 0, 1, "x")], ROW)
        self.assert_done(ROW, [("turn", 0, "z"), ("turn", 0, "a")], ROW)
        self.assert_done(NOWHERE, [("new", "b"), ("new", "a"), ("tie", 0, 1, "x")], ("ba", ((0, 1, "x"),)))
        self.assert_done(ROW, [("untie", 0, 1), ("untie", 1, 2), ("drop", 1), ("drop", 0), ("drop", 2)], NOWHERE)

    def test_places_are_numbered_above_all_that_were_ever_there(self):
        self.assert_done(NOWHERE, [("new", "a"), ("turn", 0, "b")], ("b", ()))
        self.assert_done(ROW, [("new", "c"), ("tie", 0, 3, "z")], ("abac", ((0, 1, "x"), (0, 3, "z"), (1, 2, "y"))))
        # Behind a drop, of the last place, too, the numbers of dropped ones stay away.
        alone = ("ab", ())
        self.assert_done(alone, [("drop", 1), ("new", "c"), ("turn", 2, "d")], ("ad", ()))
        self.refuse(alone, [("drop", 1), ("new", "c"), ("turn", 1, "d")])
        self.assert_done(alone, [("new", "c"), ("drop", 2), ("new", "d"), ("turn", 3, "e")], ("abe", ()))
        self.refuse(alone, [("new", "c"), ("drop", 2), ("new", "d"), ("turn", 2, "e")])
        self.assert_done(ALONE, [("drop", 0), ("new", "b"), ("new", "c"), ("tie", 1, 2, "x")], ("bc", ((0, 1, "x"),)))
        self.refuse(ALONE, [("drop", 0), ("new", "b"), ("new", "c"), ("tie", 0, 1, "x")])
        self.refuse(NOWHERE, [("new", "a"), ("turn", 1, "b")])

    def test_places_keep_their_numbers_till_the_end(self):
        web = ("abcd", ((1, 3, "x"),))
        self.assert_done(web, [("drop", 0), ("turn", 2, "z"), ("retie", 1, 3, "y")], ("bzd", ((0, 2, "y"),)))
        self.assert_done(web, [("drop", 0), ("drop", 2), ("new", "e"), ("tie", 3, 4, "x")],
            ("bde", ((0, 1, "x"), (1, 2, "x"))))

    def test_ties_rise_in_what_is_told(self):
        deeds = [("tie", 1, 2, "x"), ("tie", 0, 2, "y"), ("tie", 0, 1, "z"), ("untie", 0, 2), ("tie", 0, 2, "w")]
        self.assert_done(("aaa", ()), deeds, ("aaa", ((0, 1, "z"), (0, 2, "w"), (1, 2, "x"))))

    def test_twenty_four_deeds(self):
        self.assert_done(NOWHERE, [("new", LETTERS[at]) for at in range(24)], (LETTERS[:24], ()))
        self.assert_done(("a" * MANY, ()), [("tie", 0, at, "t") for at in range(1, 25)], ("a" * MANY, star_web(25)[1]))
        # Somewhat more are not refused.
        self.assert_done(NOWHERE, [("new", LETTERS[at]) for at in range(26)], (LETTERS, ()))

    def test_held_against_plain_deeds(self):
        chance = random.Random(47)
        good = bad = 0
        for _ in range(400):
            web = chance_web(chance, chance.randrange(7), "ab", "ab", chance.choice((0, 2, 5)))
            deeds = []
            while len(deeds) < 24:
                deed = chance_deed(chance, len(web[0]) + 4)
                wanted = plain_done(web, [*deeds, deed])
                if wanted is None:
                    bad += 1
                    self.refuse(web, [*deeds, deed])
                    if chance.randrange(8) == 0:
                        break
                else:
                    good += 1
                    deeds.append(deed)
                    self.assert_done(web, deeds, wanted)
        self.assertGreater(min(good, bad), 1000)

    def test_large_webs(self):
        full = full_web("a" * MANY, "t")
        self.assert_done(full, [("untie", 38, 39)], ("a" * MANY, full[1][:-1]))
        self.assert_done(full, [("untie", at, 39) for at in range(23)],
            ("a" * MANY, tuple(t for t in full[1] if t[1] < 39 or t[0] > 22)))
        self.assert_done(row_web(MANY), [("new", "b"), ("tie", 0, MANY, "u")],
                         ("a" * MANY + "b", tuple(sorted((*row_web(MANY)[1], (0, MANY, "u"))))))

    def test_deeds_that_cannot_be_done(self):
        self.assertTrue(issubclass(NoDeed, WebError))
        web = ("abac", ((0, 1, "x"), (1, 2, "y")))
        for deed in (
            # A place that is not there.
            ("drop", 4), ("drop", -1), ("turn", 4, "a"), ("turn", -1, "b"), ("tie", 0, 4, "x"), ("tie", 4, 5, "x"),
            ("tie", -1, 3, "x"), ("untie", 0, 4), ("untie", -1, 0), ("retie", 3, 4, "x"), ("drop", 10 ** 30),
            # With ties, at either end.
            ("drop", 0), ("drop", 1), ("drop", 2),
            # The kind that it has.
            ("turn", 0, "a"), ("turn", 3, "c"), ("retie", 0, 1, "x"), ("retie", 1, 2, "y"),
            # A tie that is there, or is not.
            ("tie", 0, 1, "x"), ("tie", 0, 1, "z"), ("tie", 1, 2, "x"), ("untie", 0, 2), ("untie", 0, 3),
            ("retie", 0, 2, "x"), ("retie", 2, 3, "z"),
            # The greater place ahead.
            ("untie", 1, 0), ("untie", 2, 1), ("tie", 2, 0, "x"), ("tie", 3, 1, "x"), ("retie", 1, 0, "z"),
            ("retie", 2, 1, "z"),
            # One place with itself.
            ("untie", 0, 0), ("tie", 0, 0, "x"), ("tie", 3, 3, "x"), ("retie", 1, 1, "x"),
        ):
            with self.subTest(deed=deed):
                self.refuse(web, [deed])
                self.refuse(web, [("tie", 1, 3, "w"), deed])
                self.refuse(web, [deed, ("tie", 1, 3, "w")])

    def test_a_dropped_place_is_not_there(self):
        for deed in (("drop", 1), ("turn", 1, "z"), ("tie", 0, 1, "x"), ("tie", 1, 2, "x"), ("untie", 0, 1),
                ("retie", 0, 1, "x")):
            self.refuse(("aaa", ()), [("drop", 1), deed])
        self.refuse(ROW, [("untie", 0, 1), ("untie", 0, 1)])
        self.refuse(ROW, [("untie", 0, 1), ("retie", 0, 1, "z")])
        self.refuse(ROW, [("untie", 0, 1), ("drop", 1)])
        self.refuse(ROW, [("tie", 0, 2, "x"), ("untie", 0, 1), ("drop", 0)])
        self.refuse(ROW, [("retie", 0, 1, "z"), ("retie", 0, 1, "z")])
        self.refuse(ROW, [("turn", 0, "z"), ("turn", 0, "z")])
        self.refuse(ROW, [("tie", 0, 2, "x"), ("tie", 0, 2, "x")])

    def test_other_words_and_parts_more_or_less(self):
        web = ("abac", ((0, 1, "x"),))
        good = [("untie", 0, 1), ("drop", 3), ("turn", 0, "z"), ("new", "a"), ("tie", 2, 3, "x"), ("retie", 0, 1, "y")]
        for deed in good:
            self.assertIs(is_web(done(web, [deed])), True)
            word, *parts = deed
            for other in (
                (word.upper(), *parts), (word + "s", *parts), (word[:-1], *parts), (" " + word, *parts),
                (word + "\n", *parts),
                ("", *parts), (0, *parts), (None, *parts), (word.encode(), *parts), (Text(word), *parts),
                ([word], *parts),
                tuple(parts), (word,), (*deed, "a"), (*deed, 0), (*deed, None), deed[:-1], (word, deed[1:]), (deed,),
                list(deed), Pair(deed), word, " ".join(map(str, deed)), dict(enumerate(deed)), iter(deed),
            ):
                self.refuse(web, [other])
                self.refuse(web, [("new", "b"), other])
        for word in ("do", "add", "tie ", "cut", "kind", "web", "have"):
            for parts in ((), (0,), (0, 1), (0, 2, "x"), ("a",), (0, "a")):
                self.refuse(web, [(word, *parts)])

    def test_truths_and_other_kinds_of_things(self):
        web = ("abac", ((0, 1, "x"),))
        for deed in (
            ("drop", True), ("turn", True, "z"), ("turn", False, "z"), ("untie", False, True), ("untie", 0, True),
            ("tie", True, 2, "x"), ("tie", False, 2, "x"), ("retie", False, True, "y"), ("retie", 0, True, "y"),
            ("drop", Number(3)),
            ("drop", "3"), ("drop", 3.0), ("drop", None), ("turn", "0", "z"), ("untie", "0", "1"), ("untie", 0.0, 1.0),
            ("turn", 0, "Z"), ("turn", 0, ""), ("turn", 0, "zz"), ("turn", 0, 1), ("turn", 0, None),
            ("turn", 0, b"z"), ("turn", 0, Text("z")),
            ("turn", 0, "1"), ("turn", 0, " "), ("new", ""), ("new", "A"), ("new", "ab"), ("new", 0), ("new", None),
            ("new", ["a"]),
            ("new", Text("a")), ("new", "\n"), ("new", "`"), ("new", "{"), ("tie", 2, 3, ""), ("tie", 2, 3, "X"),
            ("tie", 2, 3, "xx"),
            ("tie", 2, 3, None), ("tie", 2, 3, 0), ("retie", 0, 1, ""), ("retie", 0, 1, "Y"), ("retie", 0, 1, None),
            ("retie", 0, 1, "yy"),
        ):
            with self.subTest(deed=repr(deed)):
                self.refuse(web, [deed])

    def test_anything_in_the_list(self):
        for name, thing in odd_things().items():
            with self.subTest(name=name):
                for deeds in (
                    [thing], [("new", "a"), thing], [thing, ("new", "a")], [(thing,)], [(thing, 0)],
                    [(thing, 0, 2, "x")],
                    [("drop", thing)], [("new", thing)], [("turn", thing, "z")], [("turn", 0, thing)],
                    [("untie", thing, 1)],
                    [("untie", 0, thing)], [("tie", thing, 2, "x")], [("tie", 0, 2, thing)], [("retie", 0, thing, "z")],
                    [("retie", 0, 1, thing)],
                ):
                    if name != "2" or deeds not in ([("turn", thing, "z")], [("tie", thing, 2, "x")]):
                        self.refuse(ROW, deeds)

    def test_empty_ones_and_no_lists(self):
        for thing in ((), [], "", b"", {}):
            self.refuse(ROW, [thing])
            self.refuse(ROW, [("new", "a"), thing])
        good = ("new", "a")
        for deeds in ((), (good,), good, {0: good}, iter([good]), "new a", None, Row([good])):
            self.refuse(ROW, deeds)

    def test_thousands_deep(self):
        for kind in (list, tuple):
            thing = deep(kind, 5000)
            for deeds in ([thing], [("drop", thing)], [(thing, 0)], [("turn", 0, thing)],
                    [("tie", thing, thing, thing)]):
                self.refuse(ROW, deeds)

    def test_sly_things(self):
        for deeds in ([Sly()], [("drop", Sly())], [(Sly(), 0)], [("turn", 0, Sly())], [("tie", 0, Sly(), "x")]):
            self.refuse(ROW, deeds)

    def test_what_is_refused_comes_of_nothing_kept(self):
        deeds = [("untie", 0, 1), ("drop", 1)]
        self.refuse(ROW, deeds)
        self.assertEqual(deeds, [("untie", 0, 1), ("drop", 1)])
        deeds[1] = ("drop", 0)
        self.assert_done(ROW, deeds, ("ba", ((0, 1, "y"),)))
        self.assertEqual(ROW, ("aba", ((0, 1, "x"), (1, 2, "y"))))


class LeastChanges(unittest.TestCase):
    """[48], [49]"""

    def assert_least(self, one, other, wanted):
        told = least_changes(one, other)
        self.assertEqual([type(told), type(told[0]), type(told[1])], [tuple, int, list])
        number, deeds = told
        self.assertEqual((number, len(deeds)), (wanted, wanted), (one, other, deeds))
        self.assertEqual([type(deed) for deed in deeds], [tuple] * number)
        self.assertLessEqual(number, 24)
        self.assertIsNotNone(same_lead(done(one, deeds), other), (one, other, deeds))

    def test_the_same(self):
        chance = random.Random(1)
        for web in (NOWHERE, ALONE, ROW, ring_web(5), full_web("abaab", "tu"), ("a" * 5, ()), *small_webs(2)):
            self.assert_least(web, web, 0)
            self.assert_least(web, shuffled(chance, web), 0)
            self.assertEqual(least_changes(web, web), (0, []))

    def test_some(self):
        self.assert_least(NOWHERE, ALONE, 1)
        self.assert_least(ALONE, NOWHERE, 1)
        self.assert_least(ALONE, ("b", ()), 1)
        self.assertEqual(least_changes(ALONE, ("b", ())), (1, [("turn", 0, "b")]))
        self.assertEqual(least_changes(NOWHERE, ALONE), (1, [("new", "a")]))
        self.assertEqual(least_changes(ALONE, NOWHERE), (1, [("drop", 0)]))
        self.assertEqual(least_changes(("aa", ()), ("aa", ((0, 1, "x"),))), (1, [("tie", 0, 1, "x")]))
        self.assertEqual(least_changes(("aa", ((0, 1, "x"),)), ("aa", ())), (1, [("untie", 0, 1)]))
        self.assertEqual(least_changes(("aa", ((0, 1, "x"),)), ("aa", ((0, 1, "y"),))), (1, [("retie", 0, 1, "y")]))
        self.assert_least(row_web(5), ring_web(5), 1)
        self.assert_least(row_web(5), star_web(5), 4)
        self.assert_least(NOWHERE, full_web("abcde", "tu"), 15)
        self.assert_least(full_web("abcde", "tu"), NOWHERE, 15)
        self.assert_least(full_web("aaaaa", "t"), full_web("bbbbb", "u"), 15)
        self.assert_least(full_web("aaaaa", "t"), ("b" * 5, ()), 15)

    def test_a_place_may_better_be_dropped_or_turned(self):
        # A place without ties is turned, one with four is not made anew.
        self.assert_least(star_web(5), ("b" + "a" * 4, star_web(5)[1]), 1)
        self.assert_least(("ab", ()), ("cd", ()), 2)
        # It is less to turn two places than to tie all again.
        self.assert_least(("baaaa", star_web(5)[1]), ("abaaa", star_web(5)[1]), 2)
        # The tied places stay, the other one is dropped, whatever its kind.
        self.assert_least(("abb", ((1, 2, "x"),)), ("cc", ((0, 1, "x"),)), 3)

    def test_held_against_all_deeds(self):
        for kinds, tie_kinds in (("ab", "x"), ("a", "xy")):
            webs = small_webs(3, kinds, tie_kinds)
            # Through webs of one place more, too.
            numbers = all_numbers(webs, kinds, tie_kinds, 4)
            for one in numbers:
                for other in numbers:
                    self.assert_least(one, other, numbers[one][other])
                    self.assertEqual(plain_number(one, other), numbers[one][other])

    def test_held_against_all_that_places_may_become(self):
        chance = random.Random(48)
        for one, other in chance.sample(small_cases(), 150):
            if max(len(one[0]), len(other[0])) < 6:
                self.assert_least(one, other, plain_number(one, other))
        for kinds, tie_kinds in (("a", "t"), ("a", "tu"), ("ab", "t"), ("aab", "tuv"), ("abcde", "t")):
            for share in (0, 2, 5, 8, 10):
                one = chance_web(chance, 5, kinds, tie_kinds, share)
                for other in (
                    chance_web(chance, 5, kinds, tie_kinds, share), chance_web(chance, 4, kinds, tie_kinds, 5),
                    chance.choice([near for near in near_webs(chance, one) if len(near[0]) < 6]),
                ):
                    self.assert_least(one, other, plain_number(one, other))
                    self.assert_least(other, one, plain_number(one, other))

    def test_near_webs_are_one_deed_or_two_away(self):
        chance = random.Random(49)
        for _ in range(60):
            web = chance_web(chance, 5, "ab", "tu", 5)
            deed = None
            while deed is None or plain_done(web, [deed]) is None or deed[0] == "new":
                deed = chance_deed(chance, 5)
            other = plain_done(web, [deed])
            number = 0 if plain_form(web) == plain_form(other) else 1
            self.assert_least(web, shuffled(chance, other), number)

    def test_nothing_just_where_they_are_the_same(self):
        chance = random.Random(50)
        for _ in range(40):
            one = chance_web(chance, 4, "ab", "t", 5)
            for other in near_webs(chance, one) + [shuffled(chance, one)]:
                if len(other[0]) < 6:
                    self.assertEqual(least_changes(one, other)[0] == 0, same_lead(one, other) is not None)

    def test_either_way_about_and_by_a_third(self):
        chance = random.Random(51)
        webs = [chance_web(chance, chance.randrange(6), "ab", "tu", chance.choice((2, 5, 8))) for _ in range(22)]
        numbers = [[least_changes(one, other)[0] for other in webs] for one in webs]
        for one in range(len(webs)):
            for other in range(len(webs)):
                self.assertEqual(numbers[one][other], numbers[other][one])
                for third in range(len(webs)):
                    self.assertLessEqual(numbers[one][other], numbers[one][third] + numbers[third][other])

    def test_told_deeds_are_the_askers_own(self):
        for one, other in ((NOWHERE, NOWHERE), (row_web(5), star_web(5)), (ROW, ALONE)):
            before = repr((one, other))
            number, deeds = least_changes(one, other)
            deeds.append(("new", "z"))
            deeds[0] = None
            self.assert_least(one, other, number)
            self.assertEqual(repr((one, other)), before)


if __name__ == "__main__":
    unittest.main()
