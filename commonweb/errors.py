"""The refusals of the package, each of its own class under WebError."""


class WebError(ValueError):
    """Any refusal."""


class NoTable(WebError):
    """What was handed in is no table of worths."""


class NoTree(WebError):
    """The web is no tree."""


class NoShape(WebError):
    """The web is neither a row nor a ring."""


class NoWebs(WebError):
    """What was handed in is no list of webs as it is asked for."""


class NoDeed(WebError):
    """A deed in the list can't be done."""


class NoText(WebError):
    """The text is no web's text."""


class NoRow(WebError):
    """The row is none that the desk answers."""
