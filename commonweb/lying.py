"""The greatest pieces as they lie."""

from commonweb.masks import how_many, least_of, mask_of, numbers_of
from commonweb.search import count_greatest, greatest
from commonweb.webs import kinds_by_ends


def greatest_lying(one, other):
    """(size, lead): the greatest piece as it lies, the first of them."""
    return greatest(LyingRules(one, other), all_classes(one, other))


def count_lying(one, other):
    """How many greatest pieces as they lie there are."""
    return count_greatest(LyingRules(one, other), all_classes(one, other))


class LyingRules:
    """The rules by which a Search finds leads that lie; their size is how many pairs they have.

    A state is the classes that are left, rising: tuples (places, ends) of two sets.
    Each place of a class may be led to each end of it and to no other one, as its ties
    with the places led so far tell; so the classes alone tell how a lead goes on.
    """

    def __init__(self, one, other):
        self.here = others_by_tie(one)
        self.there = others_by_tie(other)

    def bound(self, classes):
        """Of each class no more pairs are led than the lesser one of its sets has."""
        return sum([min(how_many(places), how_many(ends)) for places, ends in classes])

    def whole(self, classes):
        """Every lead that lies is a piece, whatever is left."""
        return True

    def choices(self, classes):
        """The least place that is left is led to each end of its class, or to none."""
        places, ends = min(classes, key=lambda row: least_of(row[0]))
        place = least_of(places)
        told = [((place, end), 1, self.narrowed(classes, place, end)) for end in numbers_of(ends)]
        told.append((None, 0, without(classes, place)))
        return told

    def narrowed(self, classes, place, end):
        """The classes behind a pair: each cut into places and ends with like ties to it."""
        told = []
        for kind, beside in self.here[place].items():
            far = self.there[end].get(kind, 0)
            for places, ends in classes:
                if places & beside and ends & far:
                    told.append((places & beside, ends & far))
        return tuple(sorted(told))


def others_by_tie(web):
    """For each place a dict of the sets of other places by their tie with it, None for no tie."""
    kinds = kinds_by_ends(web)
    told = []
    for place in range(len(web[0])):
        sets = {}
        for other in range(len(web[0])):
            if other != place:
                kind = kinds.get((place, other))
                sets[kind] = sets.get(kind, 0) | (1 << other)
        told.append(sets)
    return told


def all_classes(one, other):
    """The state in which nothing is led."""
    return classes_of(one, other, list(range(len(one[0]))))


def classes_of(one, other, places):
    """The state in which nothing is led, and just these places of the first web may be led."""
    told = []
    for kind in sorted(set(one[0])):
        left = mask_of([place for place in places if one[0][place] == kind])
        ends = mask_of([end for end in range(len(other[0])) if other[0][end] == kind])
        if left and ends:
            told.append((left, ends))
    return tuple(sorted(told))


def without(classes, place):
    """The classes if this place is led to no end."""
    keep = ~(1 << place)
    return tuple(sorted([(places & keep, ends) for places, ends in classes if places & keep]))
