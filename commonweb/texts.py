"""Webs written as texts, a line for each place and each tie, and read back."""

from commonweb.errors import NoText
from commonweb.webs import is_web


def show_web(web):
    """The text of a web."""
    kinds, ties = web
    lines = [f"place {kind}\n" for kind in kinds]
    lines.extend([f"tie {place} {other} {kind}\n" for place, other, kind in ties])
    return "".join(lines)


def read_web(text):
    """The web whose text this is; any other text is refused with NoText."""
    if type(text) is not str:
        raise NoText("no text")
    web = web_of([line.split(" ") for line in text.split("\n")])
    # What the lines tell but do not write just so is no web's text either.
    if not is_web(web) or show_web(web) != text:
        raise NoText("no text of a web")
    return web


def web_of(lines):
    """What lines of words tell of places and ties, whatever else stands in them."""
    kinds = [words[1] for words in lines if words[0] == "place" and len(words) == 2]
    # By names that are known: a row of figures may be too long to be read as a number.
    numbers = {str(place): place for place in range(len(kinds))}
    ties = []
    for words in lines:
        if words[0] == "tie" and len(words) == 4:
            ties.append((numbers.get(words[1]), numbers.get(words[2]), words[3]))
    return ("".join(kinds), tuple(ties))
