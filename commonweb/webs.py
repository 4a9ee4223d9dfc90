"""Webs: tuples (kinds, ties) of places, each of a kind, and of ties between them.

Things of any kind are told apart by exact kinds (`type(x) is int`), because
isinstance takes a truth for an int and runs what a foreign class says of itself.
"""


def is_letter(thing):
    """True where the thing is a text of one small letter."""
    return type(thing) is str and len(thing) == 1 and "a" <= thing <= "z"


def is_place(kinds, thing):
    """True where the thing is the number of a place, one for each letter of kinds."""
    return type(thing) is int and 0 <= thing < len(kinds)


def rises(numbers):
    """True where a list of whole numbers, or of tuples of them, rises, none twice."""
    return numbers == sorted(set(numbers))


def is_tie(kinds, thing):
    """True where the thing is a tie between two places of these kinds."""
    if type(thing) is not tuple or len(thing) != 3:
        return False
    place, other, kind = thing
    if not is_place(kinds, place) or not is_place(kinds, other):
        return False
    return place < other and is_letter(kind)


def is_web(thing):
    """True where the thing, which may be anything, is a web."""
    if type(thing) is not tuple or len(thing) != 2:
        return False
    kinds, ties = thing
    if type(kinds) is not str or type(ties) is not tuple:
        return False
    if not all(is_letter(sign) for sign in kinds):
        return False
    if not all(is_tie(kinds, tie) for tie in ties):
        return False
    # Their kinds are left out: two ties between the same places are none of a web.
    return rises([(tie[0], tie[1]) for tie in ties])


def are_webs(thing, most):
    """True where the thing, which may be anything, is a list of one to so many webs."""
    if type(thing) is not list or not 1 <= len(thing) <= most:
        return False
    return all(is_web(web) for web in thing)


def tie_of(web, one, other):
    """The kind of the tie of two places, either way about, or None."""
    ties = web[1]
    ends = (min(one, other), max(one, other))
    # Halved again and again: of two webs of many places this is asked for each two pairs.
    low, high = 0, len(ties)
    while low < high:
        middle = (low + high) // 2
        if ties[middle][:2] < ends:
            low = middle + 1
        else:
            high = middle
    if low < len(ties) and ties[low][:2] == ends:
        return ties[low][2]
    return None


def kinds_by_ends(web):
    """A dict of the kinds of all ties by their two places, either way about."""
    kinds = {}
    for place, other, kind in web[1]:
        kinds[place, other] = kind
        kinds[other, place] = kind
    return kinds


def neighbours(web, place):
    """The places that have a tie with this one, rising."""
    return all_neighbours(web)[place]


def all_neighbours(web):
    """For each place the list of its neighbours, each list rising."""
    beside = [[] for _ in web[0]]
    # As the ties rise, a place meets its lesser neighbours first, and all in order.
    for place, other, _ in web[1]:
        beside[place].append(other)
        beside[other].append(place)
    return beside


def parts(web):
    """The lists of places that hang together, each rising, by their least places."""
    beside = all_neighbours(web)
    told = []
    seen = set()
    for place in range(len(beside)):
        if place not in seen:
            part = part_from(beside, place)
            told.append(part)
            for reached in part:
                seen.add(reached)
    return told


def part_from(beside, start):
    """The places to which one comes from start by ties, start too, rising."""
    seen = {start}
    waiting = [start]
    while waiting:
        place = waiting.pop()
        for other in beside[place]:
            if other not in seen:
                seen.add(other)
                waiting.append(other)
    return sorted(seen)


def hangs(web):
    """True where the web has one part, or no place."""
    return len(parts(web)) < 2


def cut(web, places):
    """The web of these places alone, called 0, 1 and so on in their order by number."""
    kinds, ties = web
    kept = sorted(places)
    numbers = {place: number for number, place in enumerate(kept)}
    left = []
    for place, other, kind in ties:
        if place in numbers and other in numbers:
            left.append((numbers[place], numbers[other], kind))
    return ("".join([kinds[place] for place in kept]), tuple(left))
