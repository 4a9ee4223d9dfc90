"""Leads of one web into another one, and which of them are pieces."""

from itertools import combinations

from commonweb.webs import cut, hangs, is_place, kinds_by_ends, rises


def is_lead(one, other, thing):
    """True where the thing, which may be anything, is a lead of one into other."""
    if type(thing) is not list:
        return False
    if not all(is_pair(one[0], other[0], pair) for pair in thing):
        return False
    ends = [pair[1] for pair in thing]
    return rises([pair[0] for pair in thing]) and len(set(ends)) == len(ends)


def is_pair(kinds, others, thing):
    """True where the thing is a place of each of two webs, of like kinds."""
    if type(thing) is not tuple or len(thing) != 2:
        return False
    place, end = thing
    if not is_place(kinds, place) or not is_place(others, end):
        return False
    return kinds[place] == others[end]


def lies(one, other, lead):
    """True where any two pairs have ties of like kinds in both webs, or in both none."""
    here = kinds_by_ends(one)
    there = kinds_by_ends(other)
    for (place, end), (beside, end_beside) in combinations(lead, 2):
        if here.get((place, beside)) != there.get((end, end_beside)):
            return False
    return True


def led_ties(one, other, lead):
    """The ties of the first web that are led to ties of the like kind, rising."""
    led = dict(lead)
    there = kinds_by_ends(other)
    told = []
    for place, beside, kind in one[1]:
        if place in led and beside in led:
            if there.get((led[place], led[beside])) == kind:
                told.append((place, beside, kind))
    return told


def is_piece(one, other, lead, how, together):
    """True where the lead is a piece as it lies ("lies") or by ties ("ties").

    Where together is True it must hang together as well.
    """
    if how == "lies":
        ties = one[1]
        holds = lies(one, other, lead)
    else:
        ties = led_ties(one, other, lead)
        holds = are_on_ties(ties, lead)
    return holds and (not together or hang_by(one[0], ties, lead))


def are_on_ties(led, lead):
    """True where each place of the lead in the first web lies on one of its led ties."""
    return {place for place, _ in lead} == {place for tie in led for place in tie[:2]}


def hang_by(kinds, ties, lead):
    """True where the lead's places in the first web hang together by these ties."""
    return hangs(cut((kinds, tuple(ties)), [place for place, _ in lead]))


def size_of(one, other, lead, how):
    """The size of a piece: its pairs as it lies ("lies"), its led ties by ties ("ties")."""
    if how == "lies":
        return len(lead)
    return len(led_ties(one, other, lead))
