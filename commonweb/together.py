"""The greatest pieces that hang together, by both measures."""

from itertools import combinations

from commonweb.lying import LyingRules, classes_of
from commonweb.search import Search, greatest
from commonweb.tying import TieRules
from commonweb.webs import cut, hangs, parts


def together_lying(one, other):
    """(size, lead): of the pieces as they lie that hang together the greatest, the first."""
    search = Search(LyingRules(one, other))
    for size in range(len(one[0]), 0, -1):
        leads = []
        for places in hanging_places(one, size):
            state = classes_of(one, other, places)
            if search.ways(state, size):
                leads.append(search.first(state, size))
        if leads:
            return (size, min(leads))
    return (0, [])


def hanging_places(web, size):
    """The lists of so many places that hang together by themselves."""
    told = []
    for places in combinations(range(len(web[0])), size):
        if hangs(cut(web, list(places))):
            told.append(places)
    return told


def together_by_ties(one, other):
    """(size, lead): of the pieces by ties that hang together the greatest, the first."""
    size, lead = 0, []
    # Such a piece lies within one part of each web, and a search within them is bound closer.
    for part in parts(one):
        for end_part in parts(other):
            rules = TieRules(cut(one, part), cut(other, end_part), True)
            found, within = greatest(rules, rules.start())
            led = [(part[place], end_part[end]) for place, end in within]
            if found > size or (found == size and led < lead):
                size, lead = found, led
    return (size, lead)
