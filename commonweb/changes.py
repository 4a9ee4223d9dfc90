"""Deeds on webs, and the fewest by which one becomes another."""

from commonweb.becoming import fewest_deeds
from commonweb.errors import NoDeed
from commonweb.webs import is_letter

PARTS = {"untie": 3, "drop": 2, "turn": 3, "new": 2, "tie": 4, "retie": 4}


def done(web, deeds):
    """The web that the deeds, done one behind the other, make of this one."""
    if type(deeds) is not list:
        raise NoDeed("no list of deeds")
    draft = Draft(web)
    for deed in deeds:
        if not draft.do(deed):
            raise NoDeed("a deed that can't be done")
    return draft.web()


class Draft:
    """A web on which deeds are done; its places keep their numbers till the end.

    A deed may be anything. Things are told apart by exact kinds, as in webs.py, before
    anything else is asked of them.
    """

    def __init__(self, web):
        self.kinds = dict(enumerate(web[0]))
        self.ties = {(place, other): kind for place, other, kind in web[1]}
        self.further = len(web[0])

    def web(self):
        """The web of the places that are left, called 0, 1 and so on."""
        kept = sorted(self.kinds)
        numbers = {place: number for number, place in enumerate(kept)}
        ties = [(numbers[place], numbers[other], self.ties[place, other]) for place, other in sorted(self.ties)]
        return ("".join([self.kinds[place] for place in kept]), tuple(ties))

    def do(self, deed):
        """Does the deed; False where it can't be done."""
        if type(deed) is not tuple or len(deed) == 0 or type(deed[0]) is not str:
            return False
        if PARTS.get(deed[0]) != len(deed):
            return False
        if deed[0] == "new":
            return self.new(deed[1])
        if deed[0] == "drop":
            return self.drop(deed[1])
        if deed[0] == "turn":
            return self.turn(deed[1], deed[2])
        if deed[0] == "untie":
            return self.untie(deed[1], deed[2])
        if deed[0] == "tie":
            return self.tie(deed[1], deed[2], deed[3])
        return self.retie(deed[1], deed[2], deed[3])

    def is_there(self, thing):
        """True where the thing is the number of a place that is left."""
        return type(thing) is int and thing in self.kinds

    def are_two(self, place, other):
        """True where these are two places that are left, the lesser one first."""
        return self.is_there(place) and self.is_there(other) and place < other

    def new(self, kind):
        """A place more, numbered one above all that were ever there."""
        if not is_letter(kind):
            return False
        self.kinds[self.further] = kind
        self.further += 1
        return True

    def drop(self, place):
        """A place less, of those without ties."""
        if not self.is_there(place) or any(place in pair for pair in self.ties):
            return False
        del self.kinds[place]
        return True

    def turn(self, place, kind):
        """A place gets another kind."""
        if not self.is_there(place) or not is_letter(kind) or self.kinds[place] == kind:
            return False
        self.kinds[place] = kind
        return True

    def untie(self, place, other):
        """A tie less."""
        if not self.are_two(place, other) or (place, other) not in self.ties:
            return False
        del self.ties[place, other]
        return True

    def tie(self, place, other, kind):
        """A tie more, of two places without one."""
        if not self.are_two(place, other) or not is_letter(kind) or (place, other) in self.ties:
            return False
        self.ties[place, other] = kind
        return True

    def retie(self, place, other, kind):
        """A tie gets another kind."""
        if not self.are_two(place, other) or not is_letter(kind):
            return False
        if self.ties.get((place, other), kind) == kind:
            return False
        self.ties[place, other] = kind
        return True


def least_changes(one, other):
    """(number, deeds): as few deeds as can be, behind which one is the same as other."""
    deeds = fewest_deeds(one, other)
    return (len(deeds), deeds)
