"""How two trees differ, and the ways from the one to the other."""

from spanrow.errors import NoTie
from spanrow.trees import exchanged, grown_tree, refuse_no_tree, ring_of, tree_cut
from spanrow.webs import ties_beside


def differ(web, one, other):
    refuse_no_tree(web, one)
    refuse_no_tree(web, other)
    return len([tie for tie in one if tie not in other])


def walk_between(web, one, other):
    refuse_no_tree(web, one)
    refuse_no_tree(web, other)
    walk = []
    tree = tuple(one)
    for into in other:
        if into not in tree:
            # The other tree has no ring, so some tie of this one is not in it.
            out = min([tie for tie in ring_of(web, tree, into) if tie not in other])
            walk.append((out, into))
            tree = exchanged(web, tree, out, into)
    return walk


def walked(web, tree, walk):
    refuse_no_tree(web, tree)
    tree = tuple(tree)
    for pair in walk:
        tree = exchanged(web, tree, pair[0], pair[1])
    return tree


def partner_of(web, one, other, tie):
    refuse_no_tree(web, one)
    refuse_no_tree(web, other)
    if tie not in one or tie in other:
        raise NoTie(f"{tie} is no tie of the one tree alone")
    # What the cut has besides the tie is not in the one tree, and what the ring has is in the other.
    cut = tree_cut(web, one, tie)
    return min([into for into in ring_of(web, other, tie) if into in cut and into != tie])


def far_tree(web, tree):
    refuse_no_tree(web, tree)
    # Ties of the tree come in only where no others can stand, and the lesser ones first.
    return grown_tree(web, (), ties_beside(web, tree) + tuple(tree))
