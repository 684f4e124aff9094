"""Trees of a web, their rings and cuts, and the exchanges that lead from tree to tree."""

from spanrow.errors import NoTie, NoTree
from spanrow.webs import (
    all_ties, is_joined, is_set, is_tie, merged_marks, piece_marks, refuse_parted, ties_without,
)


def is_tree(web, ties):
    # So few ties join all places only where none of them can be left out.
    return is_set(web, ties) and len(ties) == web.places - 1 and is_joined(web, ties)


def refuse_no_tree(web, tree):
    if not is_tree(web, tree):
        raise NoTree("no tree of the web")


# The tree of the ties inside and, as they come in the order, of all others that
# close no ring with what stands by then; None where the ties inside close one,
# or where all of them together don't join all places. All trees are of one
# size, so to take each tie as soon as it may stand gives the tree that is
# ahead in that order.
def grown_tree(web, inside, order):
    marks = piece_marks(web, ())
    grown = []
    for tie in list(inside) + list(order):
        ends = web.ties[tie]
        if marks[ends[0]] != marks[ends[1]]:
            marks = merged_marks(web, marks, (tie,))
            grown.append(tie)
    if grown[:len(inside)] != list(inside) or len(grown) < web.places - 1:
        return None
    return tuple(sorted(grown))


def least_tree(web):
    refuse_parted(web)
    return grown_tree(web, (), all_ties(web))


# The cut, for a tree and a tie of it that have been looked at already.
def tree_cut(web, tree, tie):
    marks = piece_marks(web, ties_without(tree, tie))
    return tuple([number for number, ends in enumerate(web.ties) if marks[ends[0]] != marks[ends[1]]])


def ring_of(web, tree, tie):
    refuse_no_tree(web, tree)
    if tie in tree or not is_tie(web, tie):
        raise NoTie(f"{tie} is no tie beside the tree")
    return tuple(sorted([out for out in tree if tie in tree_cut(web, tree, out)] + [tie]))


def cut_of(web, tree, tie):
    refuse_no_tree(web, tree)
    if tie not in tree:
        raise NoTie(f"{tie} is no tie of the tree")
    return tree_cut(web, tree, tie)


def exchanges_of(web, tree):
    refuse_no_tree(web, tree)
    exchanges = []
    for out in tree:
        # The cut holds no tie of the tree but the one that goes out.
        exchanges.extend([(out, into) for into in ties_without(tree_cut(web, tree, out), out)])
    return exchanges


def exchanged(web, tree, out, into):
    refuse_no_tree(web, tree)
    if out not in tree or into == out or into not in tree_cut(web, tree, out):
        raise NoTie(f"{out} out and {into} in is no exchange of the tree")
    return tuple(sorted(ties_without(tree, out) + (into,)))
