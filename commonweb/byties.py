"""The greatest pieces by ties."""

from commonweb.search import count_greatest, greatest
from commonweb.tying import TieRules


def greatest_by_ties(one, other):
    """(size, lead): the greatest piece by ties, the first of them."""
    rules = TieRules(one, other, False)
    return greatest(rules, rules.start())


def count_by_ties(one, other):
    """How many greatest pieces by ties there are."""
    rules = TieRules(one, other, False)
    return count_greatest(rules, rules.start())
