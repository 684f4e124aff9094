"""Webs of places and ties, sets of ties, and the pieces into which the places fall over them."""

from spanrow.errors import BadRow, BadSet, BadWeb, NoTie, Parted

MOST_PLACES = 14
MOST_TIES = 30


class Web:

    def __init__(self, places, ties):
        refuse_bad_web(places, ties)
        self.places = places
        # Built anew, pair by pair, so that nothing handed in is kept.
        self.ties = [(ends[0], ends[1]) for ends in ties]


def refuse_bad_web(places, ties):
    if not 1 <= places <= MOST_PLACES:
        raise BadWeb(f"a web has 1 to {MOST_PLACES} places")
    if len(ties) > MOST_TIES:
        raise BadWeb(f"a web has at most {MOST_TIES} ties")
    for ends in ties:
        for end in ends:
            if not 0 <= end < places:
                raise BadWeb(f"{end} is no place")


def is_place(web, number):
    return 0 <= number < web.places


def is_tie(web, number):
    return 0 <= number < len(web.ties)


def refuse_no_tie(web, number):
    if not is_tie(web, number):
        raise NoTie(f"{number} is no tie of the web")


# Lengths and weights alike: one for each tie.
def refuse_bad_row(web, numbers):
    if len(numbers) != len(web.ties):
        raise BadRow("there are not as many numbers as ties")


def all_ties(web):
    return tuple(range(len(web.ties)))


def ties_beside(web, ties):
    return tuple([tie for tie in range(len(web.ties)) if tie not in ties])


def ties_without(ties, left_out):
    return tuple([tie for tie in ties if tie != left_out])


def have_common(one, other):
    return any([tie in other for tie in one])


def is_set(web, ties):
    # Ahead of every number of a tie, so that the first one needs no case of its own.
    last = -1
    for tie in ties:
        if tie <= last or not is_tie(web, tie):
            return False
        last = tie
    return True


def made_set(web, ties):
    if not is_set(web, ties):
        raise BadSet("no set of ties: each is to be a tie, and they are to ascend")
    return tuple(ties)


# The marks once these ties are taken besides, two pieces joined by one of them
# under the lesser mark. The ties are taken as they are, since every asker has
# looked at them by then.
def merged_marks(web, marks, ties):
    for tie in ties:
        ends = web.ties[tie]
        low = min(marks[ends[0]], marks[ends[1]])
        high = max(marks[ends[0]], marks[ends[1]])
        if low < high:
            marks = [low if mark == high else mark for mark in marks]
    return marks


# For each place the least place of its piece: two places are in one piece just
# where these are the same.
def piece_marks(web, ties):
    return merged_marks(web, list(range(web.places)), ties)


def pieces_of(web, ties):
    # Places are gone through ascending, so a piece comes up at its least place
    # and the dict keeps the pieces in the order that is asked for.
    pieces = {}
    for place, mark in enumerate(piece_marks(web, made_set(web, ties))):
        pieces.setdefault(mark, []).append(place)
    return list(pieces.values())


def is_joined(web, ties):
    return len(pieces_of(web, ties)) == 1


def refuse_parted(web):
    if not is_joined(web, all_ties(web)):
        raise Parted("the web is not joined")


def joined_ends(web, ties, one, other):
    for piece in pieces_of(web, ties):
        if one in piece:
            return other in piece
    return False
