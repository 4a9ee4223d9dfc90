"""Bounds, by counts alone, for the pieces of webs of any size."""

from commonweb.tallies import common_count, three_letters
from commonweb.webs import all_neighbours


def by_kinds(one, other):
    """No lead has more pairs: for each kind the lesser count of its places, added up."""
    return common_count(one[0], other[0])


def by_tie_kinds(one, other):
    """No lead has more led ties: for each three letters of ties the lesser count, added up."""
    return common_count(letters_of_ties(one), letters_of_ties(other))


def letters_of_ties(web):
    """The three letters of each tie."""
    return [three_letters(web[0], tie) for tie in web[1]]


def by_degrees(one, other):
    """No lead has more led ties: half of the degrees that places of a kind can share."""
    here = degrees_by_kind(one)
    there = degrees_by_kind(other)
    told = 0
    for kind in here:
        for degree, degree_there in zip(here[kind], there.get(kind, [])):
            told += min(degree, degree_there)
    return told // 2


def degrees_by_kind(web):
    """For each kind how many neighbours its places have, from the greatest on."""
    told = {}
    for kind, beside in zip(web[0], all_neighbours(web)):
        told.setdefault(kind, []).append(len(beside))
    return {kind: sorted(told[kind], reverse=True) for kind in told}


def ties_bound(one, other):
    """The bound by ties: the least of the two."""
    return min(by_tie_kinds(one, other), by_degrees(one, other))
