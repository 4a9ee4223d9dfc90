"""The rules by which a Search finds pieces by ties, hanging together or not."""

from commonweb.masks import all_below, how_many, numbers_of
from commonweb.tallies import common_count, three_letters
from commonweb.webs import kinds_by_ends


class TieRules:
    """The rules for leads by ties; their size is how many led ties they have.

    The pair of a place and an end has a number: the place's, times how many ends there
    are, and the end's. The reach of a pair that is led is the set of the later pairs
    each of which would lead a tie with it.

    A state is (place, free, tied, bare): the place that is next, the set of the ends
    that are left, and the reaches of the pairs led so far: `tied` of those on led ties,
    in groups of pairs that hang together by led ties (where pieces need not hang
    together, in one group), and `bare` of those that still want a led tie.
    """

    def __init__(self, one, other, together):
        self.one = one
        self.other = other
        self.together = together
        self.width = len(other[0])
        self.kinds = kinds_by_ends(one)
        self.ends = ends_by_tie(other)
        self.known_rests = {}
        self.known_reaches = {}

    def start(self):
        """The state in which nothing is led."""
        return (0, all_below(self.width), (), ())

    def whole(self, state):
        """A piece has no bare pair, and where it must hang together, one group."""
        _, _, tied, bare = state
        return not bare and (not self.together or len(tied) < 2)

    def bound(self, state):
        """No more ties than the reaches tell, and than have like letters in what is left."""
        place, free, tied, bare = state
        told = self.rest(place, free)
        for group in (*tied, bare):
            for reach in group:
                told += self.most_by(reach)
        return told

    def rest(self, place, free):
        """A bound for the led ties between places that are left."""
        key = (place, free)
        if key not in self.known_rests:
            here = [tie for tie in self.one[1] if tie[0] >= place]
            there = [tie for tie in self.other[1] if (free >> tie[0]) & (free >> tie[1]) & 1]
            self.known_rests[key] = common_count(
                [three_letters(self.one[0], tie) for tie in here],
                [three_letters(self.other[0], tie) for tie in there],
            )
        return self.known_rests[key]

    def most_by(self, reach):
        """A bound for the ties that a pair of this reach has led with what is left."""
        if reach not in self.known_reaches:
            self.known_reaches[reach] = self.count_by(reach)
        return self.known_reaches[reach]

    def count_by(self, reach):
        """Places that reach the same ends can't have more of them than there are."""
        counts = {}
        left = reach
        while left:
            ends = left & all_below(self.width)
            counts[ends] = counts.get(ends, 0) + 1
            left >>= self.width
        return sum([min(counts[ends], how_many(ends)) for ends in counts])

    def choices(self, state):
        """The next place is led to each free end of its kind, or to none."""
        place, free, tied, bare = state
        told = []
        for end in numbers_of(free):
            if self.one[0][place] == self.other[0][end]:
                gain, groups, alone = self.joined(state, end)
                further = self.narrowed(place, free & ~(1 << end), groups, alone)
                if further is not None:
                    told.append(((place, end), gain, further))
        further = self.narrowed(place, free, tied, bare)
        if further is not None:
            told.append((None, 0, further))
        return told

    def joined(self, state, end):
        """(how many ties the pair leads, the tied groups behind it, the bare reaches)."""
        place, free, tied, bare = state
        bit = 1 << (place * self.width + end)
        groups = [group for group in tied if not meets(group, bit)]
        alone = [reach for reach in bare if not reach & bit]
        merged = [reach for group in tied if meets(group, bit) for reach in group]
        merged.extend([reach for reach in bare if reach & bit])
        gain = len([reach for reach in merged if reach & bit])
        if gain:
            groups.append([*merged, self.reach_of(place, end, free)])
        else:
            alone.append(self.reach_of(place, end, free))
        return (gain, groups, alone)

    def reach_of(self, place, end, free):
        """The reach of the pair, among the later places and the free ends."""
        told = 0
        for later in range(place + 1, len(self.one[0])):
            letters = (self.kinds.get((place, later)), self.one[0][later])
            told |= (self.ends[end].get(letters, 0) & free) << (later * self.width)
        return told

    def narrowed(self, place, free, tied, bare):
        """The state behind this place, or None where no piece comes of it."""
        left = 0
        for later in range(place + 1, len(self.one[0])):
            left |= free << (later * self.width)
        alone = sorted([reach & left for reach in bare])
        groups = [sorted([reach & left for reach in group if reach & left]) for group in tied]
        if not self.together:
            groups = [sorted([reach for group in groups for reach in group])]
        elif [] in groups and len(groups) + len(alone) > 1:
            # To this group nothing else can be tied any more.
            return None
        if 0 in alone:
            return None
        return (place + 1, free, tuple(sorted([tuple(group) for group in groups])), tuple(alone))


def meets(reaches, bit):
    """True where one of the reaches has this bit."""
    return any(reach & bit for reach in reaches)


def ends_by_tie(web):
    """For each place a dict of the sets of its neighbours by (kind of tie, kind of place)."""
    told = [{} for _ in web[0]]
    for (place, other), kind in kinds_by_ends(web).items():
        letters = (kind, web[0][other])
        told[place][letters] = told[place].get(letters, 0) | (1 << other)
    return told
