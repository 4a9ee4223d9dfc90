"""Rows and rings: their places in order, and the greatest stretch that two have in common."""

from commonweb.errors import NoShape
from commonweb.trees import is_tree
from commonweb.webs import all_neighbours, hangs, kinds_by_ends


def shape_of(web):
    """"row", "ring", or None of another web."""
    degrees = [len(beside) for beside in all_neighbours(web)]
    if is_tree(web) and max(degrees) < 3:
        return "row"
    if len(degrees) > 2 and all(degree == 2 for degree in degrees) and hangs(web):
        return "ring"
    return None


def along(web):
    """The places of a row from its lesser end on, of a ring from 0 to its lesser neighbour first."""
    shape = shape_of(web)
    if shape is None:
        raise NoShape("neither a row nor a ring")
    beside = all_neighbours(web)
    starts = [place for place in range(len(beside)) if shape == "ring" or len(beside[place]) < 2]
    told = [starts[0]]
    further = beside[starts[0]]
    while further:
        told.append(further[0])
        further = [place for place in beside[told[-1]] if place not in told]
    return told


def common_stretch(one, other):
    """(size, lead): of the pieces as they lie that hang together the greatest, the first.

    Such a piece of rows and rings is a stretch of each, or all of two rings.
    """
    line = Line(one, False)
    starts = []
    size = 0
    for turned in (False, True):
        ends = Line(other, turned)
        found, stretches = longest_alike(line, ends)
        if found > size:
            size, starts = found, []
        if found == size:
            starts.extend(stretches)
    return (size, first_lead(line, size, starts))


class Line:
    """The places of a row or ring in order; a ring's twice over, so that it goes on behind its end."""

    def __init__(self, web, turned):
        places = along(web)
        if turned:
            places.reverse()
        self.many = len(places)
        is_ring = len(web[1]) == len(places)
        # The longest stretch of a ring lacks a place: all of the ring has one tie more.
        self.longest = self.many - 1 if is_ring else self.many
        self.places = places * 2 if is_ring else places
        ties = kinds_by_ends(web)
        self.kinds = [web[0][place] for place in self.places]
        self.ties = [ties.get(pair) for pair in zip(self.places, self.places[1:])]
        self.ties.append(None)


def longest_alike(line, ends):
    """(size, stretches): the longest stretches alike, each as (where on the line, its ends)."""
    runs = runs_of(line, ends)
    most = max([max(row) for row in runs])
    size = min(most, line.longest, ends.longest)
    if line.many == ends.many and most > line.many:
        # Two rings, alike all round and on to the place behind that, so by their last ties, too.
        # As they have as many ties of each kind, no way round is alike but for its last tie.
        size = line.many
    stretches = []
    for at in range(line.many):
        for end in range(ends.many):
            if runs[at][end] >= size:
                stretches.append((at, ends.places[end:end + size]))
    return (size, stretches)


def runs_of(line, ends):
    """For each two places of two lines for how many places they are alike from there on."""
    behind = [0] * (len(ends.places) + 1)
    told = []
    for at in reversed(range(len(line.places))):
        row = [0] * len(behind)
        for end in range(len(ends.places)):
            if line.kinds[at] == ends.kinds[end]:
                row[end] = 1
                if line.ties[at] == ends.ties[end]:
                    row[end] += behind[end + 1]
        told.append(row)
        behind = row
    told.reverse()
    return told


def first_lead(line, size, stretches):
    """The first lead of these stretches of a size."""
    if size == 0:
        return []
    places = [line.places[at:at + size] for at in range(line.many)]
    least = [stretch.index(min(stretch)) for stretch in places]
    # Only those whose first pair is the least are put in order: two rings have many stretches.
    first = min([(places[at][least[at]], ends[least[at]]) for at, ends in stretches])
    leads = []
    for at, ends in stretches:
        if (places[at][least[at]], ends[least[at]]) == first:
            leads.append(sorted(zip(places[at], ends)))
    return min(leads)
