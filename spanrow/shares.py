"""How often ties stand in a tree, and the heights that tell it."""

from spanrow.counts import part_count, pull_table, tree_count
from spanrow.errors import NoSuch
from spanrow.tables import fraction, row_without, solved, table_without
from spanrow.webs import is_place, made_set, refuse_no_tie, refuse_parted


def share_of(web, ties):
    ties = made_set(web, ties)
    refuse_parted(web)
    return fraction(part_count(web, ties, ()), tree_count(web))


def heights_of(web, one, other):
    for place in (one, other):
        if not is_place(web, place):
            raise NoSuch(f"{place} is no place of the web")
    refuse_parted(web)
    sums = [0] * web.places
    sums[one] = 1
    # The height of the other place is known, and its sum follows from all the
    # others; so it is left out, and with it the 1 where the two are one place.
    heights = solved(table_without(pull_table(web), other), row_without(sums, other))
    return heights[:other] + ((0, 1),) + heights[other:]


def heights_hold(web, one, other, heights):
    return tuple(heights) == heights_of(web, one, other)


def fraction_less(one, other):
    return fraction(one[0] * other[1] - other[0] * one[1], one[1] * other[1])


def lean_of(web, tie, other):
    refuse_no_tie(web, tie)
    refuse_no_tie(web, other)
    ends = web.ties[tie]
    other_ends = web.ties[other]
    heights = heights_of(web, ends[0], ends[1])
    return fraction_less(heights[other_ends[0]], heights[other_ends[1]])
