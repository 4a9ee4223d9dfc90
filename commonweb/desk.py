"""A desk that keeps webs by names, and answers rows about them by texts."""

from commonweb.byties import greatest_by_ties
from commonweb.counts import ties_bound
from commonweb.errors import NoRow
from commonweb.lines import shape_of
from commonweb.lying import count_lying, greatest_lying
from commonweb.sameness import same_lead
from commonweb.shares import distance
from commonweb.texts import read_web, show_web
from commonweb.together import together_by_ties, together_lying
from commonweb.trees import is_tree
from commonweb.webs import is_letter, parts

MOST_LETTERS = 6
# Of the webs where two are asked.
MOST_PLACES = 7


def say_text(web):
    """The web's text, or a word where it has none."""
    return show_web(web) or "none"


def say_shape(web):
    """Row, ring, another tree or another web."""
    return shape_of(web) or ("tree" if is_tree(web) else "web")


def say_parts(web):
    """How many parts the web has."""
    return str(len(parts(web)))


def say_lies(one, other):
    """The size of the greatest piece as it lies."""
    return str(greatest_lying(one, other)[0])


def say_ties(one, other):
    """The size of the greatest piece by ties."""
    return str(greatest_by_ties(one, other)[0])


def say_lies_together(one, other):
    """The size of the greatest piece as it lies that hangs together."""
    return str(together_lying(one, other)[0])


def say_ties_together(one, other):
    """The size of the greatest piece by ties that hangs together."""
    return str(together_by_ties(one, other)[0])


def say_count(one, other):
    """How many greatest pieces as they lie there are."""
    return str(count_lying(one, other))


def say_same(one, other):
    """The lead by which two webs are the same, or whether they are where it has no pair."""
    lead = same_lead(one, other)
    if lead is None:
        return "no"
    return " ".join([f"{place}>{end}" for place, end in lead]) or "yes"


def say_distance(one, other):
    """The distance of two webs."""
    above, below = distance(one, other)
    return f"{above}/{below}"


def say_bound(one, other):
    """The bound by ties."""
    return str(ties_bound(one, other))


OF_ONE = {"text": say_text, "shape": say_shape, "parts": say_parts}
OF_TWO = {
    "lies": say_lies,
    "ties": say_ties,
    "count": say_count,
    "same": say_same,
    "distance": say_distance,
    "bound": say_bound,
}
OF_TWO_TOGETHER = {"lies": say_lies_together, "ties": say_ties_together}


def is_name(word):
    """True where webs may be kept by this text."""
    return 1 <= len(word) <= MOST_LETTERS and all(is_letter(sign) for sign in word)


class Desk:
    """Keeps webs by names and answers rows; what it refuses changes nothing."""

    def __init__(self):
        self.webs = {}

    def say(self, row):
        """The answer to a row, which may be anything; NoRow of what is none."""
        if type(row) is not str:
            raise NoRow("no text")
        head, feed, text = row.partition("\n")
        words = head.split(" ")
        return self.keep(words, text) if feed else self.answer(words)

    def keep(self, words, text):
        """Keeps the web of this text by a name; NoRow of other words, then NoText of another text."""
        if len(words) != 2 or words[0] != "have" or not is_name(words[1]):
            raise NoRow("no row that tells a web")
        self.webs[words[1]] = read_web(text)
        return "ok"

    def answer(self, words):
        """The answer to a row of these words."""
        ask = None
        if len(words) == 2:
            ask = OF_ONE.get(words[0])
        elif len(words) == 3:
            ask = OF_TWO.get(words[0])
        elif len(words) == 4 and words[3] == "together":
            ask = OF_TWO_TOGETHER.get(words[0])
        webs = [self.webs.get(name) for name in words[1:3]]
        if ask is None or None in webs:
            raise NoRow("no such row, or a web that is not kept")
        if len(webs) == 2 and not all(len(web[0]) <= MOST_PLACES for web in webs):
            raise NoRow("a web of too many places")
        return ask(*webs)
