"""All trees of a web in ascending order, by their numbers and one by one."""

from spanrow.counts import part_count, tree_count
from spanrow.errors import NoSuch
from spanrow.trees import grown_tree, refuse_no_tree
from spanrow.webs import all_ties, have_common, made_set, ties_beside


# The least and the greatest tree for two sets without a common tie that have
# been looked at already; None where there is none.
def least_in(web, inside, outside):
    return grown_tree(web, inside, ties_beside(web, outside))


def greatest_in(web, inside, outside):
    return grown_tree(web, inside, list(reversed(ties_beside(web, outside))))


def least_with(web, inside, outside):
    inside = made_set(web, inside)
    outside = made_set(web, outside)
    return None if have_common(inside, outside) else least_in(web, inside, outside)


def greatest_with(web, inside, outside):
    inside = made_set(web, inside)
    outside = made_set(web, outside)
    return None if have_common(inside, outside) else greatest_in(web, inside, outside)


# Of two trees the one that has the least tie in which they differ is ahead. So
# all that have a tie are ahead of all that don't, among those that are alike in
# the lesser ties: by this trees are numbered, and found again.
def tree_at(web, number):
    if not 0 <= number < tree_count(web):
        raise NoSuch(f"no tree has the number {number}")
    inside = ()
    outside = ()
    for tie in all_ties(web):
        size = part_count(web, inside + (tie,), outside)
        if number < size:
            inside = inside + (tie,)
        else:
            number -= size
            outside = outside + (tie,)
    return inside


def lesser_ties(ties, bound):
    return tuple([tie for tie in ties if tie < bound])


def number_of(web, tree):
    refuse_no_tree(web, tree)
    beside = ties_beside(web, tree)
    return sum([part_count(web, lesser_ties(tree, tie) + (tie,), lesser_ties(beside, tie)) for tie in beside])


# The tree behind a tree that has been looked at already: it is alike in as many
# lesser ties as may be, and goes without the tie at which the two part.
def tree_behind(web, tree):
    beside = ties_beside(web, tree)
    for tie in reversed(tree):
        found = least_in(web, lesser_ties(tree, tie), lesser_ties(beside, tie) + (tie,))
        if found is not None:
            return found
    return None


def next_tree(web, tree):
    refuse_no_tree(web, tree)
    return tree_behind(web, tree)


def tree_ahead(web, tree):
    refuse_no_tree(web, tree)
    beside = ties_beside(web, tree)
    for tie in reversed(beside):
        found = greatest_in(web, lesser_ties(tree, tie) + (tie,), lesser_ties(beside, tie))
        if found is not None:
            return found
    return None


def refuse_below_nought(number):
    if number < 0:
        raise NoSuch(f"{number} is below 0")


def trees_from(web, number, most):
    refuse_below_nought(number)
    if number >= tree_count(web):
        return []
    trees = []
    tree = tree_at(web, number)
    while tree is not None and len(trees) < most:
        trees.append(tree)
        tree = tree_behind(web, tree)
    return trees
