"""The search for the greatest leads, place by place, by either measure.

By which measure is told by rules, an object with three methods. Its states tell
what matters for the rest of a lead, so that leads alike in it are counted once:

- `bound(state)`: a number of which the rest of the lead adds no more to the size;
- `whole(state)`: whether the lead is a piece if it ends here;
- `choices(state)`: what may become of the next place, as (pair or None, what this
  adds to the size, the state behind it), in the order of the leads as lists.

The rest of a lead that adds nothing to its size must have no pair.
"""


class Search:
    """Counts and finds the leads of a size from a state on."""

    def __init__(self, rules):
        self.rules = rules
        self.known = {}

    def ways(self, state, need):
        """How many leads from here on are pieces and add just so much to the size."""
        if need < 1:
            return 1 if need == 0 and self.rules.whole(state) else 0
        if self.rules.bound(state) < need:
            return 0
        key = (state, need)
        if key not in self.known:
            choices = self.rules.choices(state)
            self.known[key] = sum([self.ways(further, need - gain) for _, gain, further in choices])
        return self.known[key]

    def most(self, state):
        """The greatest size from here on."""
        need = self.rules.bound(state)
        while not self.ways(state, need):
            need -= 1
        return need

    def first(self, state, need):
        """Of the leads that `ways` counts, of which there must be one, the first."""
        lead = []
        while need > 0:
            pair, gain, state = self.first_choice(state, need)
            need -= gain
            if pair is not None:
                lead.append(pair)
        return lead

    def first_choice(self, state, need):
        """The first choice behind which there is a lead that `ways` counts."""
        for pair, gain, further in self.rules.choices(state):
            if self.ways(further, need - gain):
                return (pair, gain, further)


def greatest(rules, start):
    """The greatest size and the first lead of it, as a tuple."""
    search = Search(rules)
    size = search.most(start)
    return (size, search.first(start, size))


def count_greatest(rules, start):
    """How many leads have the greatest size."""
    search = Search(rules)
    return search.ways(start, search.most(start))
