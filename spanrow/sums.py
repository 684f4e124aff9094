"""Sums over all trees: of weights, by ties of a set, and of rooted forests."""

from spanrow.counts import pull_table, tree_count, weighted_table
from spanrow.errors import NoSuch
from spanrow.tables import determinant, table_without
from spanrow.webs import is_place, made_set, refuse_bad_row


def weight_of(web, weights, ties):
    refuse_bad_row(web, weights)
    weight = 1
    for tie in made_set(web, ties):
        weight *= weights[tie]
    return weight


def tree_sum(web, weights):
    refuse_bad_row(web, weights)
    return determinant(table_without(weighted_table(web, weights), web.places - 1))


# The factors, by the rising powers of t, of a sum that is told for t = base,
# where none of them is below 0 or as great as the base: so they are the figures
# of the sum, if it were written in that base.
def factors_of(number, base, many):
    factors = []
    for power in range(many):
        factors.append(number % base)
        number = number // base
    return tuple(factors)


def sorts_of(web, ties):
    ties = made_set(web, ties)
    # Greater than the number of trees of any sort.
    base = tree_count(web) + 1
    weights = [base if tie in ties else 1 for tie in range(len(web.ties))]
    return factors_of(tree_sum(web, weights), base, web.places)


def sorts_at(web, place):
    if not is_place(web, place):
        raise NoSuch(f"{place} is no place of the web")
    return sorts_of(web, [tie for tie, ends in enumerate(web.ties) if place in ends and ends[0] != ends[1]])


# The determinant of [10.3] for one t.
def forest_sum(web, root_weight):
    table = pull_table(web)
    for place in range(web.places):
        table[place][place] += root_weight
    return determinant(table)


def rooted_forests(web):
    # With t = 1 it is the number of all of them.
    base = forest_sum(web, 1) + 1
    return factors_of(forest_sum(web, base), base, web.places + 1)
