"""What the places of one web must become that the fewest deeds make another web of it.

Each place becomes an end, a place of the other web, or none, and is dropped; an end that no
place becomes is new. By this the deeds are told: just one for each place dropped, new or of
another kind, and one for each tie too many, too few or of another kind.
"""

from commonweb.tallies import common_count
from commonweb.webs import kinds_by_ends


def fewest_deeds(one, other):
    """As few deeds as can be behind which one is the same as other, in an order to do them in."""
    becoming = Becoming(one, other)
    becoming.go_on([], 0)
    return deeds_for(one, other, becoming.best)


class Becoming:
    """Tries what the places become, one behind the other, by lists of ends (None for none)."""

    def __init__(self, one, other):
        self.one = one
        self.other = other
        self.here = kinds_by_ends(one)
        self.there = kinds_by_ends(other)
        self.best = None
        # One more than it takes to drop all and to make all anew.
        self.fewest = len(one[0]) + len(one[1]) + len(other[0]) + len(other[1]) + 1

    def go_on(self, ends, many):
        """Tries what the places behind those of these ends become; so far it takes many deeds."""
        least = many + self.bound(ends)
        if least >= self.fewest:
            return
        if len(ends) == len(self.one[0]):
            self.best = ends
            self.fewest = least
            return
        choices = [end for end in range(len(self.other[0])) if end not in ends]
        choices.append(None)
        told = sorted([(self.deeds_of(ends, end), number) for number, end in enumerate(choices)])
        for more, number in told:
            self.go_on([*ends, choices[number]], many + more)

    def deeds_of(self, ends, end):
        """How many deeds the next place takes, and its ties with those ahead, to become this end."""
        place = len(ends)
        many = 0
        if end is None or self.one[0][place] != self.other[0][end]:
            many = 1
        for before, end_before in enumerate(ends):
            if self.here.get((before, place)) != self.there.get((end_before, end)):
                many += 1
        return many

    def bound(self, ends):
        """At least so many deeds are still to be told; just so many where no place is left."""
        first = len(ends)
        left = [end for end in range(len(self.other[0])) if end not in ends]
        ties = [kind for _, place, kind in self.one[1] if place >= first]
        ties_there = [kind for end, far, kind in self.other[1] if end in left or far in left]
        places = self.one[0][first:]
        places_there = [self.other[0][end] for end in left]
        return unlike(places, places_there) + unlike(ties, ties_there)


def unlike(these, those):
    """How many must be changed, added or left out to make those of these."""
    return max(len(these), len(those)) - common_count(these, those)


def deeds_for(one, other, ends):
    """The deeds by which each place becomes its end."""
    names, deeds_on_places = named(one, other, ends)
    here = {tie[:2]: tie[2] for tie in one[1]}
    there = {}
    for end, far, kind in other[1]:
        there[min(names[end], names[far]), max(names[end], names[far])] = kind
    told = [("untie", place, beside) for place, beside in here if (place, beside) not in there]
    told.extend(deeds_on_places)
    for place, beside in sorted(there):
        kind = there[place, beside]
        if (place, beside) not in here:
            told.append(("tie", place, beside, kind))
        elif here[place, beside] != kind:
            told.append(("retie", place, beside, kind))
    return told


def named(one, other, ends):
    """(names, deeds): the number of the place that becomes each end, and the deeds but those on ties."""
    names = {}
    told = []
    further = len(ends)
    for place, end in enumerate(ends):
        if end is None:
            told.append(("drop", place))
        else:
            names[end] = place
            if one[0][place] != other[0][end]:
                told.append(("turn", place, other[0][end]))
    for end, kind in enumerate(other[0]):
        if end not in names:
            names[end] = further
            further += 1
            told.append(("new", kind))
    return (names, told)
