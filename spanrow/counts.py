"""How many trees a web has, by determinants."""

from spanrow.tables import determinant, table_without
from spanrow.webs import Web, have_common, made_set, piece_marks


# The pull table with a weight for each tie in the place of 1.
def weighted_table(web, weights):
    table = [[0] * web.places for place in range(web.places)]
    for ends, weight in zip(web.ties, weights):
        one = ends[0]
        other = ends[1]
        if one != other:
            table[one][one] += weight
            table[other][other] += weight
            table[one][other] -= weight
            table[other][one] -= weight
    return table


def pull_table(web):
    return weighted_table(web, [1] * len(web.ties))


def tree_count(web):
    return determinant(table_without(pull_table(web), web.places - 1))


# The count for two sets without a common tie that have been looked at already:
# the trees of the web with the pieces over the one set for its places, and
# with the ties of neither set.
def part_count(web, inside, outside):
    marks = piece_marks(web, inside)
    firsts = sorted(set(marks))
    # A tie that closes no ring makes the pieces one fewer; so here is a ring.
    if len(firsts) + len(inside) > web.places:
        return 0
    numbers = [firsts.index(mark) for mark in marks]
    gone = inside + outside
    free = [ends for tie, ends in enumerate(web.ties) if tie not in gone]
    return tree_count(Web(len(firsts), [(numbers[ends[0]], numbers[ends[1]]) for ends in free]))


def count_with(web, inside, outside):
    inside = made_set(web, inside)
    outside = made_set(web, outside)
    if have_common(inside, outside):
        return 0
    return part_count(web, inside, outside)
