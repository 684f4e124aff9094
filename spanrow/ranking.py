"""The trees in the order of their lengths."""

from spanrow.cheapest import length_of
from spanrow.trees import grown_tree
from spanrow.webs import all_ties, refuse_bad_row


# The first of the trees with some ties and without some others, behind its
# length and ahead of these two sets; in a list, which is empty where there is
# no such tree.
def first_of(web, lengths, order, inside, outside):
    tree = grown_tree(web, inside, [tie for tie in order if tie not in outside])
    if tree is None:
        return []
    return [(length_of(web, lengths, tree), tree, inside, outside)]


# The firsts of the parts into which a part falls when its first tree is taken
# from it: with the ties of that tree up to one, and without this one.
def firsts_behind(web, lengths, order, taken):
    inside = taken[2]
    outside = taken[3]
    firsts = []
    for tie in taken[1]:
        if tie not in inside:
            firsts.extend(first_of(web, lengths, order, inside, outside + (tie,)))
            inside = inside + (tie,)
    return firsts


def ranked(web, lengths, most):
    refuse_bad_row(web, lengths)
    # Ties of one length stay in ascending order, so what is grown is the least of the cheapest.
    order = sorted(all_ties(web), key=lambda tie: lengths[tie])
    waiting = first_of(web, lengths, order, (), ())
    told = []
    while len(waiting) > 0 and len(told) < most:
        # No two have the same tree, so it goes by the length and then by the tree.
        taken = min(waiting)
        waiting.remove(taken)
        told.append((taken[0], taken[1]))
        waiting.extend(firsts_behind(web, lengths, order, taken))
    return told
