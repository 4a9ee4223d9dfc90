"""Papers: from each one may read off that no piece as it lies is greater than it says.

Some pairs are open, at first all. A paper puts them into classes in which no two pairs
fit, so that a lead that lies has at most one pair of each; or it parts the leads by a
pair: those with it and those without it have papers of their own.
"""

from commonweb.fits import fit_masks, pairs
from commonweb.leads import is_pair
from commonweb.lying import greatest_lying
from commonweb.masks import all_below, numbers_of

MOST_WITHIN = 60


def paper_of(one, other):
    """A paper that says the size of the greatest piece as it lies."""
    maker = Maker(one, other)
    return maker.paper(all_below(len(maker.every)), greatest_lying(one, other)[0])


class Maker:
    """Makes papers for two webs. Pairs go by their numbers, open ones as a set of these."""

    def __init__(self, one, other):
        self.every = pairs(one, other)
        self.fits = fit_masks(one, other)

    def paper(self, opened, size):
        """A paper that says no more than size, which no lead of open pairs that fit exceeds."""
        classes = self.few_classes(opened)
        if len(classes) <= size:
            return ("classes", [self.pairs_of(row) for row in classes])
        number = numbers_of(classes[-1])[0]
        with_it = self.paper(opened & self.fits[number], size - 1)
        without_it = self.paper(opened & ~(1 << number), size)
        return ("pair", self.every[number], with_it, without_it)

    def pairs_of(self, numbers):
        """The list of the pairs in a set."""
        return [self.every[number] for number in numbers_of(numbers)]

    def few_classes(self, opened):
        """Classes for the open pairs, as sets, the fewer of two tries."""
        by_places = numbers_of(opened)
        # The other way about they start from the second web, whose ties may part more.
        by_ends = sorted(by_places, key=lambda number: self.every[number][1])
        classes = self.classes_in_turn(by_places)
        others = self.classes_in_turn(by_ends)
        return others if len(others) < len(classes) else classes

    def classes_in_turn(self, numbers):
        """Classes, each pair put in turn into the first one with none that fits with it."""
        classes = []
        for number in numbers:
            at = 0
            while at < len(classes) and classes[at] & self.fits[number]:
                at += 1
            if at == len(classes):
                classes.append(0)
            classes[at] |= 1 << number
        return classes


def says(one, other, thing):
    """The number that the thing, which may be anything, says for all pairs; None of no paper."""
    checker = Checker(one, other)
    return checker.said(thing, all_below(len(checker.fits)), MOST_WITHIN)


class Checker:
    """Reads papers for two webs. Pairs go by their numbers, open ones as a set of these.

    Things are told apart by exact kinds, as in webs.py, before anything else is asked of them.
    """

    def __init__(self, one, other):
        self.one = one
        self.other = other
        self.numbers = {pair: number for number, pair in enumerate(pairs(one, other))}
        self.fits = fit_masks(one, other)

    def said(self, thing, opened, within):
        """What the thing says for the open pairs, by at most so many papers within one another."""
        if within == 0 or type(thing) is not tuple or len(thing) == 0:
            return None
        word = thing[0]
        if type(word) is not str:
            return None
        if word == "classes" and len(thing) == 2:
            return self.said_by_classes(thing[1], opened)
        if word == "pair" and len(thing) == 4:
            return self.said_by_pair(thing, opened, within)
        return None

    def said_by_pair(self, thing, opened, within):
        """The greater one of one more than with the pair and of without it."""
        _, pair, with_it, without_it = thing
        number = self.number_of(pair, opened)
        if number is None:
            return None
        # If the first one is none the other one is not read: of papers that stand in many
        # places, thousands within one another, there would be no end.
        said_with = self.said(with_it, opened & self.fits[number], within - 1)
        if said_with is None:
            return None
        said_without = self.said(without_it, opened & ~(1 << number), within - 1)
        if said_without is None:
            return None
        return max(said_with + 1, said_without)

    def said_by_classes(self, classes, opened):
        """How many classes there are, if they are classes and have all open pairs."""
        if type(classes) is not list:
            return None
        covered = 0
        for row in classes:
            members = self.members_of(row, opened)
            if members is None:
                return None
            covered |= members
        return len(classes) if covered == opened else None

    def members_of(self, row, opened):
        """The set of the pairs of a class, None where it is none."""
        if type(row) is not list:
            return None
        members = 0
        for pair in row:
            number = self.number_of(pair, opened)
            if number is None:
                return None
            members |= 1 << number
        for number in numbers_of(members):
            if members & self.fits[number]:
                return None
        return members

    def number_of(self, thing, opened):
        """The number of an open pair, None where the thing is none."""
        if not is_pair(self.one[0], self.other[0], thing):
            return None
        number = self.numbers[thing]
        return number if (opened >> number) & 1 else None
