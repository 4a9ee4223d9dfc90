"""When two webs are the same, and what all webs that are the same have in common."""

from commonweb.lying import LyingRules, all_classes, others_by_tie
from commonweb.masks import how_many, numbers_of
from commonweb.search import Search
from commonweb.webs import all_neighbours, kinds_by_ends


def same_lead(one, other):
    """The first lead that has all places of both webs and lies, or None."""
    many = len(one[0])
    if len(other[0]) != many:
        return None
    search = Search(LyingRules(one, other))
    start = all_classes(one, other)
    return search.first(start, many) if search.ways(start, many) else None


def onto_itself(web):
    """How many leads that lie lead all places of the web onto itself."""
    return Search(LyingRules(web, web)).ways(all_classes(web, web), len(web[0]))


def plain(web):
    """The least, as tuples are ordered, of all webs that are the same as this one.

    Its places are numbered one behind the other. As the ties of a number come ahead of
    those of all behind it, they must be the first that they can be, whatever is left then.
    """
    beside = others_by_tie(web)
    states = [sets_by_kind(web[0])]
    ties = []
    for number in range(len(web[0])):
        told = [numbered(beside, sets, place, number) for sets in states for place in numbers_of(sets[0])]
        first = min([row for row, _ in told])
        ties.extend(first[:-1])
        states = sorted(set([sets for row, sets in told if row == first]))
    return ("".join(sorted(web[0])), tuple(ties))


def sets_by_kind(kinds):
    """A tuple of the sets of places of each kind, in the order of the kinds."""
    told = {kind: 0 for kind in sorted(set(kinds))}
    for place, kind in enumerate(kinds):
        told[kind] |= 1 << place
    return tuple(told.values())


def numbered(beside, sets, place, number):
    """(row, sets): what comes of it if this place of the first set has this number.

    The places of the sets have the numbers from it on, those of the first set first. The
    row has the place's ties with the places that are left, where these are numbered so that
    it is the least, and a tuple behind them that comes behind all ties of the number. The
    sets that are left are parted by these ties.
    """
    kinds = sorted([kind for kind in beside[place] if kind is not None])
    row = []
    parted = []
    further = number
    for members in sets:
        for kind in (*kinds, None):
            part = members & beside[place].get(kind, 0)
            if part:
                parted.append(part)
            for _ in range(how_many(part)):
                further += 1
                if kind is not None:
                    row.append((number, further, kind))
    row.append((number + 1,))
    return (row, tuple(parted))


def marks(web):
    """For each place its mark of the last round."""
    kinds = kinds_by_ends(web)
    beside = all_neighbours(web)
    told = ranks(list(web[0]))
    for _ in web[0]:
        keys = [(told[place], around(kinds, place, beside[place], told)) for place in range(len(told))]
        further = ranks(keys)
        if further == told:
            # So are those of each round behind it.
            break
        told = further
    return told


def around(kinds, place, beside, told):
    """The tuples (kind of tie, mark) of the place's neighbours, rising."""
    return tuple(sorted([(kinds[place, other], told[other]) for other in beside]))


def ranks(things):
    """For each thing its number, from 0 on, in the order of the unlike ones."""
    numbers = {thing: number for number, thing in enumerate(sorted(set(things)))}
    return [numbers[thing] for thing in things]
