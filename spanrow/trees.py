"""Trees of a web, their rings and cuts, and the exchanges that lead from tree to tree."""

from spanrow.errors import NoTie, NoTree, Parted
from spanrow.webs import is_joined, is_set, is_tie, joined_ends, piece_marks


def is_tree(web, ties):
    # So few ties join all places only where none of them can be left out.
    return is_set(web, ties) and len(ties) == web.places - 1 and is_joined(web, ties)


def refuse_no_tree(web, tree):
    if not is_tree(web, tree):
        raise NoTree("no tree of the web")


def least_tree(web):
    # All trees are of one size, so to take each tie as soon as it closes no
    # ring gives the least of them.
    tree = ()
    for tie, ends in enumerate(web.ties):
        if not joined_ends(web, tree, ends[0], ends[1]):
            tree = tree + (tie,)
    if len(tree) < web.places - 1:
        raise Parted("the web is not joined, so it has no tree")
    return tree


def ties_without(ties, left_out):
    return tuple([tie for tie in ties if tie != left_out])


# The cut, for a tree and a tie of it that have been looked at already.
def tree_cut(web, tree, tie):
    marks = piece_marks(web, ties_without(tree, tie))
    return tuple([number for number, ends in enumerate(web.ties) if marks[ends[0]] != marks[ends[1]]])


def ring_of(web, tree, tie):
    refuse_no_tree(web, tree)
    if tie in tree or not is_tie(web, tie):
        raise NoTie(f"{tie} is no tie beside the tree")
    return tuple(sorted([out for out in tree if tie in tree_cut(web, tree, out)] + [tie]))


def cut_of(web, tree, tie):
    refuse_no_tree(web, tree)
    if tie not in tree:
        raise NoTie(f"{tie} is no tie of the tree")
    return tree_cut(web, tree, tie)


def exchanges_of(web, tree):
    refuse_no_tree(web, tree)
    exchanges = []
    for out in tree:
        # The cut holds no tie of the tree but the one that goes out.
        exchanges.extend([(out, into) for into in ties_without(tree_cut(web, tree, out), out)])
    return exchanges


def exchanged(web, tree, out, into):
    refuse_no_tree(web, tree)
    if out not in tree or into == out or into not in tree_cut(web, tree, out):
        raise NoTie(f"{out} out and {into} in is no exchange of the tree")
    return tuple(sorted(ties_without(tree, out) + (into,)))
