"""Webs made of webs: drawn together at a tie, left without one, put together at a place."""

from spanrow.errors import BadWeb, NoTie
from spanrow.webs import Web, all_ties, is_joined, is_place, refuse_no_tie, refuse_parted, ties_without

# Each tie may double the work of counting by parting.
MOST_PARTED_TIES = 12


def is_loop(ends):
    return ends[0] == ends[1]


def left_without(web, tie):
    refuse_no_tie(web, tie)
    return Web(web.places, web.ties[:tie] + web.ties[tie + 1:])


# For each place its number once the greater of two places has come to the lesser one.
def drawn_numbers(places, low, high):
    numbers = [place if place < high else place - 1 for place in range(places)]
    numbers[high] = low
    return numbers


# A web of one place less, of ties that may still lead to the greater place.
def drawn_web(places, ties, low, high):
    numbers = drawn_numbers(places, low, high)
    return Web(places - 1, [(numbers[ends[0]], numbers[ends[1]]) for ends in ties])


def drawn_together(web, tie):
    refuse_no_tie(web, tie)
    ends = web.ties[tie]
    if is_loop(ends):
        raise NoTie(f"{tie} is a loop")
    return drawn_web(web.places, web.ties[:tie] + web.ties[tie + 1:], min(ends), max(ends))


def needed_ties(web):
    refuse_parted(web)
    return tuple([tie for tie in all_ties(web) if not is_joined(web, ties_without(all_ties(web), tie))])


def idle_ties(web):
    refuse_parted(web)
    return tuple([tie for tie, ends in enumerate(web.ties) if is_loop(ends)])


def put_together(web, place, other, other_place):
    if not is_place(web, place):
        raise BadWeb(f"{place} is no place of the first web")
    if not is_place(other, other_place):
        raise BadWeb(f"{other_place} is no place of the second web")
    behind = [(ends[0] + web.places, ends[1] + web.places) for ends in other.ties]
    return drawn_web(web.places + other.places, web.ties + behind, place, other_place + web.places)


def count_by_parting(web):
    if len(web.ties) > MOST_PARTED_TIES:
        raise BadWeb(f"counting by parting is for at most {MOST_PARTED_TIES} ties")
    if len(web.ties) == 0:
        return 1 if web.places == 1 else 0
    # Parted at the last tie, the other ties keep their numbers.
    last = len(web.ties) - 1
    without = count_by_parting(left_without(web, last))
    if is_loop(web.ties[last]):
        return without
    return without + count_by_parting(drawn_together(web, last))
