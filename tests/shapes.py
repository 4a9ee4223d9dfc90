"""Trees, rows and rings for the tests, and plain searches along their ties."""

import functools
import random
from itertools import product

from tests.samples import chance_web, plain_tie, renamed, ring_web, row_web, star_web


def from_letters(kinds, tie_kinds):
    """A row, or where there are as many ties' letters as places a ring, written in order."""
    many = len(kinds)
    ends = [(at, at + 1) if at + 1 < many else (0, at) for at in range(len(tie_kinds))]
    return (kinds, tuple(sorted((*pair, kind) for pair, kind in zip(ends, tie_kinds))))


def shuffled(chance, web):
    """The web with its places called otherwise."""
    return renamed(web, chance.sample(range(len(web[0])), len(web[0])))


def letters(chance, many, kinds):
    return "".join(chance.choice(kinds) for _ in range(many))


def chance_row(chance, many, kinds="a", tie_kinds="t"):
    return shuffled(chance, from_letters(letters(chance, many, kinds), letters(chance, many - 1, tie_kinds)))


def chance_ring(chance, many, kinds="a", tie_kinds="t"):
    return shuffled(chance, from_letters(letters(chance, many, kinds), letters(chance, many, tie_kinds)))


def chance_tree(chance, many, kinds="a", tie_kinds="t", reach=99):
    """A tree in which each place hangs on one of so many before it: by a reach of 1 a row."""
    ties = []
    for place in range(1, many):
        ties.append((chance.randrange(max(0, place - reach), place), place, chance.choice(tie_kinds)))
    return shuffled(chance, (letters(chance, many, kinds), tuple(sorted(ties))))


def all_trees(most, kinds="a", tie_kinds="t"):
    """All trees of one to so many places whose later places hang on earlier ones."""
    told = []
    for many in range(1, most + 1):
        for before in product(*(range(place) for place in range(1, many))):
            for signs in product(kinds, repeat=many):
                for marks in product(tie_kinds, repeat=many - 1):
                    ties = [(end, at + 1, mark) for at, (end, mark) in enumerate(zip(before, marks))]
                    told.append(("".join(signs), tuple(sorted(ties))))
    return told


def without_leaves(chance, tree, many):
    """The tree but for some places that hung by one tie when they were taken."""
    kinds, ties = list(enumerate(tree[0])), list(tree[1])
    for _ in range(many):
        ends = [end for tie in ties for end in tie[:2]]
        leaf = chance.choice([place for place, _ in kinds if ends.count(place) == 1])
        kinds = [pair for pair in kinds if pair[0] != leaf]
        ties = [tie for tie in ties if leaf not in tie[:2]]
    names = {place: at for at, (place, _) in enumerate(kinds)}
    told = tuple(sorted((names[place], names[other], kind) for place, other, kind in ties))
    return ("".join(kind for _, kind in kinds), told)


def big_trees():
    """Trees of twenty places: rows, stars, brooms, spiders, and some by chance."""
    chance = random.Random(33)
    broom = ("a" * 20, tuple((max(0, place - 9) if place > 9 else 0, place, "t") for place in range(1, 20)))
    double = ("a" * 20, ((0, 1, "t"), *((place % 2, place, "t") for place in range(2, 20))))
    told = [row_web(20), row_web(20, turned=True), star_web(20), broom]
    told += [("a" * 20, tuple(sorted(double[1]))), shuffled(chance, star_web(20))]
    for kinds, tie_kinds, reach in product(("a", "ab", "abcdef"), ("t", "tu"), (2, 5, 99)):
        told.append(chance_tree(chance, 20, kinds, tie_kinds, reach))
    return told


def no_trees():
    """Webs that are no trees: without places, with a ring, or that do not hang together."""
    triangle = ((0, 1, "t"), (0, 2, "t"), (1, 2, "t"))
    return [
        ("", ()),
        ("aa", ()),
        ("aaa", ((0, 2, "t"),)),
        ("aaa", triangle),
        # As many ties as a tree would have.
        ("aaaa", triangle),
        ("a" * 40, tuple(sorted((*triangle, *((3, place, "t") for place in range(4, 40)))))),
        ring_web(4),
        ring_web(20),
        ring_web(40),
        ("a" * 20, tuple(sorted((*star_web(20)[1], (5, 6, "t"))))),
        ("a" * 21, row_web(20)[1]),
        chance_web(random.Random(3), 20, "ab", "tu", 4),
    ]


def plain_distances(web):
    """How many ties it is from each place to each other one, by trying ways through each place."""
    many = len(web[0])
    far = [[0 if one == other else 99 for other in range(many)] for one in range(many)]
    for place, other, _ in web[1]:
        far[place][other] = far[other][place] = 1
    for through, one, other in product(range(many), repeat=3):
        far[one][other] = min(far[one][other], far[one][through] + far[through][other])
    return far


def plain_beside(web, place):
    return [other for other in range(len(web[0])) if plain_tie(web, place, other) is not None]


def most_together(table, left):
    """The greatest sum of worths, of each row and each of the left columns one at most."""
    if not table:
        return 0
    told = most_together(table[1:], left)
    for column in left:
        if table[0][column]:
            further = most_together(table[1:], tuple(end for end in left if end != column))
            told = max(told, table[0][column] + further)
    return told


def plain_common_tree(one, other):
    """The greatest size of a common tree, growing from each two places by each choice of neighbours."""
    @functools.lru_cache(maxsize=None)
    def grown(place, before, end, end_before):
        if one[0][place] != other[0][end]:
            return 0
        places = [far for far in plain_beside(one, place) if far != before]
        ends = [far for far in plain_beside(other, end) if far != end_before]
        table = []
        for further in places:
            kind = plain_tie(one, place, further)
            table.append([grown(further, place, far, end) if kind == plain_tie(other, end, far) else 0 for far in ends])
        return 1 + most_together(table, tuple(range(len(ends))))
    return max(grown(place, None, end, None) for place in range(len(one[0])) for end in range(len(other[0])))


def plain_shape(web):
    """The shape by the degrees, and by how far the places are from one another."""
    many = len(web[0])
    degrees = [len(plain_beside(web, place)) for place in range(many)]
    if many == 0 or max(max(row) for row in plain_distances(web)) >= 99 or max(degrees) > 2:
        return None
    if len(web[1]) == many - 1:
        return "row"
    return "ring" if many > 2 and degrees == [2] * many else None
