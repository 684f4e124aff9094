"""Lengths of ties, and the trees of least length."""

from spanrow.counts import tree_count
from spanrow.plain import number_of, tree_at
from spanrow.trees import exchanges_of, least_tree
from spanrow.webs import Web, made_set, merged_marks, piece_marks, refuse_bad_row


def length_of(web, lengths, ties):
    refuse_bad_row(web, lengths)
    return sum([lengths[tie] for tie in made_set(web, ties)])


# A web of as many places, with ties of the same numbers, whose trees are just
# the cheapest ones. By ties of one length a cheapest tree joins all that they
# can join of the pieces over the shorter ties, and how it does so binds it for
# no other length. So there is a web of these pieces for each length, and all
# of them are put together at the place 0. There lies the first one of the
# pieces that come to be one; each of the others lies at its least place, which
# is free: behind this length it is no piece's least place any more.
def cheapest_web(web, lengths):
    refuse_bad_row(web, lengths)
    made = list(web.ties)
    marks = piece_marks(web, ())
    for length in sorted(set(lengths)):
        level = [tie for tie, own in enumerate(lengths) if own == length]
        merged = merged_marks(web, marks, level)
        spots = [0 if mark == later else mark for mark, later in zip(marks, merged)]
        for tie in level:
            ends = web.ties[tie]
            made[tie] = (spots[ends[0]], spots[ends[1]])
        marks = merged
    return Web(web.places, made)


def cheapest_tree(web, lengths):
    return least_tree(cheapest_web(web, lengths))


def gains_of(web, lengths, tree):
    refuse_bad_row(web, lengths)
    return [(out, into) for out, into in exchanges_of(web, tree) if lengths[into] < lengths[out]]


def is_cheapest(web, lengths, tree):
    return len(gains_of(web, lengths, tree)) == 0


def cheapest_count(web, lengths):
    return tree_count(cheapest_web(web, lengths))


def cheapest_at(web, lengths, number):
    return tree_at(cheapest_web(web, lengths), number)


def cheapest_number(web, lengths, tree):
    return number_of(cheapest_web(web, lengths), tree)
