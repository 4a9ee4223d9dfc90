"""How much of two webs their greatest piece as it lies is."""

from math import gcd

from commonweb.errors import NoWebs
from commonweb.lying import greatest_lying
from commonweb.webs import are_webs

MOST_WEBS = 8


def distance(one, other):
    """(above, below): 1 less the share of the greatest piece in the greater web."""
    size, _ = greatest_lying(one, other)
    most = max(len(one[0]), len(other[0]))
    if most == 0:
        return (0, 1)
    common = gcd(most - size, most)
    return ((most - size) // common, most // common)


def joined_size(one, other):
    """How many places both webs have together, those of the greatest piece counted once."""
    size, _ = greatest_lying(one, other)
    return len(one[0]) + len(other[0]) - size


def nearest(web, webs):
    """The number, from 0, of the first web of least distance."""
    if not are_webs(webs, MOST_WEBS):
        raise NoWebs("no list of one to eight webs")
    best = 0
    least = distance(web, webs[0])
    for number in range(1, len(webs)):
        further = distance(web, webs[number])
        if further[0] * least[1] < least[0] * further[1]:
            best, least = number, further
    return best
