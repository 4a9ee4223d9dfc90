"""Things that two webs have in common by their counts alone."""


def common_count(these, those):
    """For each thing the lesser one of its counts in the two, added up."""
    left = {}
    for thing in those:
        left[thing] = left.get(thing, 0) + 1
    told = 0
    for thing in these:
        if left.get(thing, 0) > 0:
            left[thing] -= 1
            told += 1
    return told


def three_letters(kinds, tie):
    """A tie's own kind and the kinds of its two places, of these the lesser one first."""
    place, other, kind = tie
    return (kind, min(kinds[place], kinds[other]), max(kinds[place], kinds[other]))
