"""Pairs of places of two webs, and which of them fit."""

from commonweb.webs import kinds_by_ends, tie_of


def pairs(one, other):
    """All tuples (place, other) of like kinds, rising."""
    told = []
    for place, kind in enumerate(one[0]):
        for end, kind_of_end in enumerate(other[0]):
            if kind == kind_of_end:
                told.append((place, end))
    return told


def fit(one, other, pair, beside):
    """True where the pairs are unlike in both places and have like ties in both webs or none."""
    if pair[0] == beside[0] or pair[1] == beside[1]:
        return False
    return tie_of(one, pair[0], beside[0]) == tie_of(other, pair[1], beside[1])


def fit_masks(one, other):
    """For each of all pairs the set of the numbers, in their list, of those that fit with it."""
    here = kinds_by_ends(one)
    there = kinds_by_ends(other)
    every = list(enumerate(pairs(one, other)))
    told = []
    for _, (place, end) in every:
        mask = 0
        for number, (beside, far) in every:
            if place != beside and end != far and here.get((place, beside)) == there.get((end, far)):
                mask |= 1 << number
        told.append(mask)
    return told
