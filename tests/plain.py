"""Pieces of webs by plain search: oracles that share no code with the package."""

import functools
import random
from itertools import combinations

from tests.samples import (
    ALONE, MIXED, NOWHERE, chance_web, full_web, near_webs, plain_parts, plain_tie, renamed, row_web,
    small_webs,
)

MEASURES = [(how, together) for how in ("lies", "ties") for together in (False, True)]


def plain_fit(one, other, pair, beside):
    """True where two pairs are unlike in both places and have like ties or none."""
    if pair[0] == beside[0] or pair[1] == beside[1]:
        return False
    return plain_tie(one, pair[0], beside[0]) == plain_tie(other, pair[1], beside[1])


def plain_lies(one, other, lead):
    return all(
        plain_tie(one, place, beside) == plain_tie(other, end, far)
        for (place, end), (beside, far) in combinations(lead, 2)
    )


def plain_led(one, other, lead):
    told = []
    for (place, end), (beside, far) in combinations(sorted(lead), 2):
        kind = plain_tie(one, place, beside)
        if kind is not None and kind == plain_tie(other, end, far):
            told.append((place, beside, kind))
    return sorted(told)


def plain_piece(one, other, lead, how, together):
    places = [place for place, _ in lead]
    if how == "lies":
        holds = plain_lies(one, other, lead)
        ends = [tie[:2] for tie in one[1] if tie[0] in places and tie[1] in places]
    else:
        ends = [tie[:2] for tie in plain_led(one, other, lead)]
        holds = all(any(place in pair for pair in ends) for place in places)
    return holds and (not together or len(plain_parts(places, ends)) < 2)


class Best:
    """The greatest size so far, the leads' first one of it, and how many have it."""

    def __init__(self):
        self.size, self.lead, self.many = 0, [], 1

    def meet(self, size, lead):
        if size > self.size:
            self.size, self.lead, self.many = size, lead, 1
        elif size == self.size and lead:
            self.lead = min(self.lead, lead)
            self.many += 1


def pair_of_pairs(one, other, pair, beside):
    """How two pairs of a lead stand: "led", "free" (no tie in both webs) or "apart"."""
    kinds = plain_tie(one, pair[0], beside[0]), plain_tie(other, pair[1], beside[1])
    if kinds[0] != kinds[1]:
        return "apart"
    return "free" if kinds[0] is None else "led"


def leads_and_stands(stand, one, other, lead=(), led=0, apart=0, place=0):
    """All leads that go on from this one at this place, with how many two pairs stand led and apart."""
    if place == len(one[0]):
        yield list(lead), led, apart
        return
    yield from leads_and_stands(stand, one, other, lead, led, apart, place + 1)
    for end in range(len(other[0])):
        if one[0][place] == other[0][end] and all(pair[1] != end for pair in lead):
            stands = [stand[pair, (place, end)] for pair in lead]
            behind = (led + stands.count("led"), apart + stands.count("apart"), place + 1)
            yield from leads_and_stands(stand, one, other, (*lead, (place, end)), *behind)


@functools.lru_cache(maxsize=None)
def plain_best(one, other):
    """The Best of each measure, by trying all leads of one into other."""
    every = [(place, end) for place in range(len(one[0])) for end in range(len(other[0]))]
    stand = {(pair, beside): pair_of_pairs(one, other, pair, beside) for pair in every for beside in every}
    best = {measure: Best() for measure in MEASURES}
    for lead, led, apart in leads_and_stands(stand, one, other):
        if not apart:
            meet(best, one, other, lead, "lies", len(lead))
        meet(best, one, other, lead, "ties", led)
    return best


def meet(best, one, other, lead, how, size):
    """Lets a lead be met by both measures of this kind, where it is a piece and might count."""
    for together in (False, True):
        held = best[how, together]
        if size >= held.size and plain_piece(one, other, lead, how, together):
            held.meet(size, lead)


def two_halves(chance, many, bridge):
    """A web of two parts, but for one tie between them of the kind that is told as bridge."""
    half = many // 2
    first = chance_web(chance, half, "a", "t", 9)
    second = chance_web(chance, many - half, "a", "t", 9)
    ties = [(place + half, other + half, kind) for place, other, kind in second[1]]
    if bridge:
        ties.append((chance.randrange(half), chance.randrange(half, many), bridge))
    web = ("a" * many, tuple(sorted([*first[1], *ties])))
    return renamed(web, chance.sample(range(many), many))


@functools.lru_cache(maxsize=None)
def small_cases():
    """Two webs each, small enough for the plain search."""
    webs = small_webs(2) + small_webs(3, "a", "xy")[5:] + [ALONE, MIXED]
    told = [(one, other) for one in webs for other in webs]
    chance = random.Random(12)
    few = small_webs(3)
    told += [(chance.choice(few), chance.choice(few)) for _ in range(400)]
    for many, times in ((4, 24), (5, 8), (6, 1)):
        for kinds, tie_kinds in (("a", "t"), ("a", "tu"), ("aab", "t"), ("ab", "tuv"), ("abcdef", "t")):
            for share in (1, 3, 5, 8):
                for _ in range(times):
                    one = chance_web(chance, many, kinds, tie_kinds, share)
                    other = chance_web(chance, chance.randrange(many + 1), kinds, tie_kinds, share)
                    told.append(chance.choice([(one, other), (other, one)]))
    for bridge in ("", "u", "t"):
        halves = [two_halves(chance, many, bridge) for many in (4, 5, 5, 5, 5, 6)]
        told += [(one, other) for one in halves for other in halves]
    for share in (2, 4, 7):
        one = chance_web(chance, 5, "a", "tu", share)
        told += [(one, other) for other in near_webs(chance, one)]
        told += [(one, one), (one, NOWHERE), (NOWHERE, one)]
    return told


@functools.lru_cache(maxsize=None)
def large_cases():
    """Two webs of seven places each, still within reach of the plain search."""
    chance = random.Random(77)
    told = []
    for share in (1, 3, 5, 7, 9):
        for tie_kinds in ("t", "tu"):
            one = chance_web(chance, 7, "aab", tie_kinds, share)
            told.append((one, chance_web(chance, 7, "aab", tie_kinds, share)))
            told.append((one, chance.choice(near_webs(chance, one))))
            told.append((one, renamed(one, chance.sample(range(7), 7))))
    mixed = chance_web(chance, 7, "a", "t", 4)
    told += [(mixed, chance_web(chance, 7, "a", "t", 5)), (row_web(7, turned=True), mixed)]
    return told + [(full_web("a" * 7, "tu"), chance_web(chance, 7, "a", "tu", 6))]


def plain_cases():
    return small_cases() + large_cases()
