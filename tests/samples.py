"""Webs, leads and odd things for the tests, and plain oracles that share no code with the package."""

import functools
import random
from itertools import combinations, permutations, product

MANY = 40
LETTERS = "abcdefghijklmnopqrstuvwxyz"

NOWHERE = ("", ())
ALONE = ("a", ())
# Two triangles with a tail, and one place by itself.
MIXED = ("abacab", ((0, 1, "x"), (0, 4, "y"), (1, 4, "x"), (2, 5, "z")))


def full_web(kinds, tie_kinds):
    """A web with every tie there can be, the ties' kinds taken in turn."""
    ends = combinations(range(len(kinds)), 2)
    return (kinds, tuple((*pair, tie_kinds[at % len(tie_kinds)]) for at, pair in enumerate(ends)))


def row_web(many, turned=False):
    """A row of places in order of number, or with the even numbers first."""
    along = list(range(many))
    if turned:
        along = along[::2] + along[1::2]
    ends = sorted(tuple(sorted(pair)) for pair in zip(along, along[1:]))
    return ("a" * many, tuple((*pair, "t") for pair in ends))


def ring_web(many):
    """A ring of places in order of number."""
    ends = sorted([*((place, place + 1) for place in range(many - 1)), (0, many - 1)])
    return ("a" * many, tuple((*pair, "t") for pair in ends))


def star_web(many):
    """Place 0 tied with all others."""
    return ("a" * many, tuple((0, place, "t") for place in range(1, many)))


def renamed(web, names):
    """The web with its places called otherwise: place p is called names[p]."""
    kinds = [None] * len(web[0])
    for place, name in enumerate(names):
        kinds[name] = web[0][place]
    ties = [(*sorted((names[place], names[other])), kind) for place, other, kind in web[1]]
    return ("".join(kinds), tuple(sorted(ties)))


def near_webs(chance, web):
    """Webs near this one: a tie or a place more or less or of another kind, called otherwise."""
    kinds, ties = web
    many = len(kinds)
    tied = [tie[:2] for tie in ties]
    bare = [pair for pair in combinations(range(many), 2) if pair not in tied]
    told = [(kinds[:-1], tuple(tie for tie in ties if tie[1] != many - 1))]
    told.append(("c" + kinds[1:], ties))
    if many < 7:
        told.append((kinds + "a", ties))
        told.append((kinds + "a", tuple(sorted((*ties, (0, many, "t"))))))
    if ties:
        at = chance.randrange(len(ties))
        told.append((kinds, ties[:at] + ties[at + 1:]))
        told.append((kinds, ties[:at] + ((*ties[at][:2], "w"),) + ties[at + 1:]))
    if bare:
        told.append((kinds, tuple(sorted((*ties, (*chance.choice(bare), "t"))))))
    return told + [renamed(near, chance.sample(range(len(near[0])), len(near[0]))) for near in told]


def chance_web(chance, many, kinds, tie_kinds, share):
    """A web of so many places, of which about share in ten pairs are tied."""
    ties = []
    for pair in combinations(range(many), 2):
        if chance.randrange(10) < share:
            ties.append((*pair, chance.choice(tie_kinds)))
    return ("".join(chance.choice(kinds) for _ in range(many)), tuple(ties))


def chance_webs():
    """Webs of up to 40 places, the same ones each time."""
    chance = random.Random(20)
    shapes = product((1, 2, 5, 8, 15, MANY), ("a", "ab", LETTERS), ("t", "tuv"), (0, 1, 2, 5, 10))
    return [chance_web(chance, *shape) for shape in shapes]


def seven_webs():
    """Webs of seven places of one kind: without ties, rows, rings, with all ties, and some by chance."""
    chance = random.Random(7)
    told = [
        ("a" * 7, ()), row_web(7), row_web(7, turned=True), ring_web(7), star_web(7),
        full_web("a" * 7, "t"), full_web("a" * 7, "tu"), renamed(ring_web(7), [3, 0, 5, 1, 6, 2, 4]),
    ]
    for share in (1, 3, 5, 7, 9):
        told.append(chance_web(chance, 7, "a", "t", share))
        told.append(chance_web(chance, 7, "a", "tu", share))
    return told


def small_webs(most, kinds="ab", tie_kinds="xy"):
    """All webs of at most so many places with these kinds."""
    webs = []
    for many in range(most + 1):
        ends = list(combinations(range(many), 2))
        for letters in product(kinds, repeat=many):
            for chosen in product(("",) + tuple(tie_kinds), repeat=len(ends)):
                ties = tuple((*pair, kind) for pair, kind in zip(ends, chosen) if kind)
                webs.append(("".join(letters), ties))
    return webs


def all_webs():
    """Ordinary webs: small ones, mixed ones, and large ones of one kind and of many."""
    return [
        *small_webs(3),
        MIXED,
        ("a" * MANY, ()),
        full_web("a" * MANY, "t"),
        full_web((LETTERS * 2)[:MANY], LETTERS),
        row_web(MANY),
        row_web(MANY, turned=True),
        *chance_webs(),
    ]


def plain_leads(one, other):
    """All leads of one into other, by trying every choice of places."""
    told = []
    for size in range(min(len(one[0]), len(other[0])) + 1):
        for places in combinations(range(len(one[0])), size):
            for ends in permutations(range(len(other[0])), size):
                if all(one[0][place] == other[0][end] for place, end in zip(places, ends)):
                    told.append(list(zip(places, ends)))
    return told


@functools.lru_cache(maxsize=8)
def plain_ties(web):
    """The ties' kinds by the sets of their two places."""
    return {frozenset(tie[:2]): tie[2] for tie in web[1]}


def plain_tie(web, one, other):
    """The tie's kind, or None."""
    return plain_ties(web).get(frozenset((one, other)))


def plain_parts(places, ends):
    """The parts of these places by these pairs of places, by merging lists."""
    told = [[place] for place in places]
    for place, end in ends:
        first = next(part for part in told if place in part)
        second = next(part for part in told if end in part)
        if first != second:
            told = [part for part in told if part not in (first, second)]
            told.append(first + second)
    return sorted(sorted(part) for part in told)


def deep(kind, levels=30000):
    """A list or tuple that holds one of its kind, and so on."""
    thing = kind()
    for _ in range(levels):
        thing = kind([thing])
    return thing


def deep_web(levels=30000):
    """Webs within one another: a tuple of two at each level."""
    thing = NOWHERE
    for _ in range(levels):
        thing = (thing, (thing,))
    return thing


class Sly:
    """A thing that fails whatever it is asked."""

    def __init__(self):
        pass

    def refuse(self, *told):
        raise RuntimeError("asked")

    __eq__ = __ne__ = __lt__ = __le__ = __gt__ = __ge__ = refuse
    __hash__ = __len__ = __bool__ = __iter__ = __getitem__ = __index__ = refuse
    __contains__ = __repr__ = __str__ = refuse
    __class__ = property(refuse)


def odd_things():
    """Things that are right in no seat of a web or a lead, by their names."""
    ring = []
    ring.append(ring)
    return {
        "None": None,
        "True": True,
        "False": False,
        "-1": -1,
        "2": 2,
        "-2": -2,
        "large": 10 ** 400,
        "less": -10 ** 400,
        "upper": "A",
        "both": "aB",
        "figure": "0",
        "blank": " ",
        "blanks": "a b",
        "behind": "a\n",
        "ahead": "`",
        "beyond": "{",
        "bytes": b"a",
        "no bytes": b"",
        "list": [0, 1],
        "list of lists": [[0, 0]],
        "list of ties": [(0, 1, "x")],
        "list of none": [None],
        "tuple of none": (None,),
        "tuple of two": (None, None),
        "tuple of three": (0, 1, None),
        "list web": ["a", ()],
        "web of lists": ("a", []),
        "dict": {},
        "dict of ties": {(0, 1): "x"},
        "set": set(),
        "set of numbers": {0, 1},
        "frozen": frozenset([0]),
        "range": range(2),
        "class": int,
        "function": len,
        "lambda": lambda: 0,
        "object": object(),
        "generator": (at for at in (0, 1)),
        "sly": Sly(),
        "ring": ring,
        "deep list": deep(list),
        "deep tuple": deep(tuple),
        "deep web": deep_web(),
        "deep dict": deep(lambda held=(): {0: held}),
    }
