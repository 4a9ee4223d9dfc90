"""Pieces that several webs have in common."""

from itertools import combinations

from commonweb.errors import NoWebs
from commonweb.lying import LyingRules, classes_of
from commonweb.search import Search
from commonweb.webs import are_webs

MOST_WEBS = 4
MOST_PLACES = 5


def common_of(webs):
    """(size, leads): the most places of a common piece, and the first such piece.

    It leads places of the first web into each web, in the first one each to itself.
    """
    if not are_webs(webs, MOST_WEBS) or not all(len(web[0]) <= MOST_PLACES for web in webs):
        raise NoWebs("no list of one to four webs of at most five places each")
    many = len(webs[0][0])
    searches = [Search(LyingRules(webs[0], web)) for web in webs]
    for size in range(many, 0, -1):
        for places in combinations(range(many), size):
            starts = [classes_of(webs[0], web, places) for web in webs]
            if all(search.ways(start, size) for search, start in zip(searches, starts)):
                return (size, first_leads(searches, starts, places))
    return (0, [[] for _ in webs])


def first_leads(searches, starts, places):
    """The first leads of just these places, of which each search has one."""
    told = [[(place, place) for place in places]]
    for search, start in list(zip(searches, starts))[1:]:
        told.append(search.first(start, len(places)))
    return told
