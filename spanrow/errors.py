"""The refusals of the program, one class for each."""


# Above all refusals, so that an asker can take any of them by one name.
class WebError(ValueError):
    pass


# Refused: more or fewer places or ties than a web may have, or an end that is no place.
class BadWeb(WebError):
    pass


# Refused: numbers that are no set of ties of the web.
class BadSet(WebError):
    pass


# Refused: a web that is not joined, where a tree is needed.
class Parted(WebError):
    pass


# Refused: ties that are no tree of the web.
class NoTree(WebError):
    pass


# Refused: a number of no tie, or of a tie that may not stand there.
class NoTie(WebError):
    pass


# Refused: a number at which nothing stands.
class NoSuch(WebError):
    pass


# Refused: a table whose rows are not as long as there are rows.
class NotSquare(WebError):
    pass


# Refused: a table whose determinant is nought.
class Singular(WebError):
    pass


# Refused: lengths or weights that are not as many as ties.
class BadRow(WebError):
    pass


# Refused: turns that don't hold each dart once, at its place.
class BadTurns(WebError):
    pass


# Refused: a web that doesn't lie flat by the turns.
class NotFlat(WebError):
    pass


# Refused: a text or a line that is not written as it must be.
class BadText(WebError):
    pass


# Refused: no deed that could be undone.
class NothingBack(WebError):
    pass
