"""Trees: the greatest piece that two of them have in common, and the middle of one."""

from commonweb.assigning import best_pairs
from commonweb.errors import NoTree
from commonweb.webs import all_neighbours, hangs, kinds_by_ends


def is_tree(web):
    """True where the web has a place, hangs together and has one tie less than places."""
    return len(web[0]) == len(web[1]) + 1 and hangs(web)


def common_tree(one, other):
    """(size, lead): of the pieces of two trees as they lie that hang together a greatest one."""
    if not is_tree(one) or not is_tree(other):
        raise NoTree("a common tree is told of two trees only")
    return Branches(one, other).greatest()


class Branches:
    """The greatest pieces that the branches of two trees have in common.

    A branch of the first tree is a place and all behind it, seen from place 0. A branch of
    the second one is an end and all behind it, seen from one of its neighbours or, where
    this is None, the whole tree. `sizes` tells, by (place, end, seen from), the size of
    the greatest piece of two branches that leads the place to the end. Such a piece goes
    on into branches behind these, each into another one, by ties that are alike; as trees
    have no rings, it lies.
    """

    def __init__(self, one, other):
        self.one = one
        self.other = other
        self.here = kinds_by_ends(one)
        self.there = kinds_by_ends(other)
        self.behind = neighbours_behind(one)
        self.beside = all_neighbours(other)
        self.sizes = {}
        for place in reversed(list(self.behind)):
            self.measure(place)

    def measure(self, place):
        """Finds the sizes of the branches of this place; those behind it are known."""
        for end, kind in enumerate(self.other[0]):
            if kind == self.one[0][place]:
                ends = self.beside[end]
                table = self.worths_behind(place, end, ends)
                pairs = best_pairs(table)
                whole = 1 + sum_of(table, pairs)
                self.sizes[place, end, None] = whole
                led = [column for _, column in pairs]
                for column, seen_from in enumerate(ends):
                    # An end that is not led anyway changes nothing where it is left out.
                    less = self.size_without(table, column) if column in led else whole
                    self.sizes[place, end, seen_from] = less

    def size_without(self, table, column):
        """The greatest size by the other columns of the table."""
        left = [worths[:column] + worths[column + 1:] for worths in table]
        return 1 + sum_of(left, best_pairs(left))

    def worths_behind(self, place, end, ends):
        """For each neighbour behind the place the sizes of its branches with those of these ends."""
        return [[self.worth(place, end, further, far) for far in ends] for further in self.behind[place]]

    def best_behind(self, place, end, seen_from):
        """The branches, told as the sizes have them, into which a greatest piece goes on."""
        ends = [far for far in self.beside[end] if far != seen_from]
        pairs = best_pairs(self.worths_behind(place, end, ends))
        return [(self.behind[place][row], ends[column], end) for row, column in pairs]

    def worth(self, place, end, further, far):
        """The size of the branches behind these two ties, 0 where they have none in common."""
        if self.here[place, further] != self.there[end, far]:
            return 0
        return self.sizes.get((further, far, end), 0)

    def greatest(self):
        """(size, lead): a greatest piece of the two trees."""
        starts = [branch for branch in self.sizes if branch[2] is None]
        if not starts:
            return (0, [])
        start = max(starts, key=lambda branch: self.sizes[branch])
        lead = []
        waiting = [start]
        while waiting:
            place, end, seen_from = waiting.pop()
            lead.append((place, end))
            waiting.extend(self.best_behind(place, end, seen_from))
        return (self.sizes[start], sorted(lead))


def sum_of(table, pairs):
    """The worths of these pairs together."""
    return sum([table[row][column] for row, column in pairs])


def neighbours_behind(tree):
    """A dict of the neighbours of each place but the one towards place 0, nearer places first."""
    beside = all_neighbours(tree)
    told = {}
    waiting = [(0, None)]
    while waiting:
        place, seen_from = waiting.pop()
        told[place] = [further for further in beside[place] if further != seen_from]
        waiting.extend([(further, place) for further in told[place]])
    return told


def middle(tree):
    """(places, how far): from where the farthest place is least far, and how far it is."""
    if not is_tree(tree):
        raise NoTree("a middle is told of a tree only")
    beside = all_neighbours(tree)
    far = [farthest_from(beside, place) for place in range(len(beside))]
    return ([place for place in range(len(far)) if far[place] == min(far)], min(far))


def farthest_from(beside, start):
    """How many ties it is from a place of a tree to the one that is farthest from it."""
    far = 0
    # Each place with the one from which it was reached: in a tree it is reached by no other one.
    reached = [(further, start) for further in beside[start]]
    while reached:
        far += 1
        reached = [(further, place) for place, last in reached for further in beside[place] if further != last]
    return far
