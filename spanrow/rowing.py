"""All trees of a web in one row, in which each comes of the one ahead by one exchange."""

from spanrow.counts import part_count, tree_count
from spanrow.errors import NoSuch
from spanrow.plain import least_in, refuse_below_nought
from spanrow.trees import refuse_no_tree, ring_of
from spanrow.webs import piece_marks, refuse_parted, ties_without


# The pieces, told by their marks, in which a tie has its ends.
def end_pieces(web, marks, tie):
    ends = web.ties[tie]
    return sorted([marks[ends[0]], marks[ends[1]]])


def open_ties(web, marks, gone):
    return [tie for tie, ends in enumerate(web.ties) if tie not in gone and marks[ends[0]] != marks[ends[1]]]


# A part of a web that has a tree, led by one of its open ties (by None where it
# has none). The row of a part falls into two halves where there is an open tie
# to lead them, `further`; else it is all told by the ties that come in.
class Part:

    def __init__(self, web, kept, shut, lead):
        self.web = web
        self.kept = kept
        self.shut = shut
        self.lead = lead
        self.least = least_in(web, kept, shut)
        marks = piece_marks(web, kept)
        opened = open_ties(web, marks, kept + shut + self.least)
        alike = [tie for tie in opened if end_pieces(web, marks, tie) == end_pieces(web, marks, lead)]
        unlike = [tie for tie in opened if tie not in alike]
        # The twins ascending, and the one that leads at last.
        self.incoming = sorted(alike, key=lambda tie: tie == lead)
        self.further = min(unlike, default=None)


def whole_part(web):
    opened = open_ties(web, piece_marks(web, ()), least_in(web, (), ()))
    return Part(web, (), (), min(opened, default=None))


def half_without(part):
    return Part(part.web, part.kept, part.shut + (part.lead,), part.further)


def half_with(part):
    return Part(part.web, part.kept + (part.lead,), part.shut, part.further)


def part_size(part):
    return part_count(part.web, part.kept, part.shut)


# What comes of the least tree with a tie in and each that may go for it out, in
# ascending order of these.
def trees_with_tie(part, into):
    leaving = [tie for tie in ring_of(part.web, part.least, into) if tie != into and tie not in part.kept]
    return [tuple(sorted(ties_without(part.least, out) + (into,))) for out in leaving]


# The row of a part that has no halves.
def undivided_row(part):
    row = [part.least]
    # By turns, such that the tie that leads, the last one, has its trees ascending.
    ascending = len(part.incoming) % 2 == 1
    for into in part.incoming:
        trees = trees_with_tie(part, into)
        row.extend(trees if ascending else list(reversed(trees)))
        ascending = not ascending
    return row


# The trees of the row of a part from one number up to another one; with the
# size of the part, by which the half that is turned about is counted from its end.
def trees_between(part, size, start, stop):
    if start >= stop:
        return []
    if part.further is None:
        return undivided_row(part)[start:stop]
    first = half_without(part)
    middle = part_size(first)
    trees = trees_between(first, middle, start, min(stop, middle))
    if stop > middle:
        turned = trees_between(half_with(part), size - middle, size - stop, size - max(start, middle))
        trees.extend(list(reversed(turned)))
    return trees


def number_in(part, size, tree):
    if part.further is None:
        return undivided_row(part).index(tree)
    first = half_without(part)
    middle = part_size(first)
    if part.lead in tree:
        return size - 1 - number_in(half_with(part), size - middle, tree)
    return number_in(first, middle, tree)


def row_from(web, number, most):
    refuse_below_nought(number)
    size = tree_count(web)
    if number >= size:
        return []
    return trees_between(whole_part(web), size, number, min(number + most, size))


def row_at(web, number):
    trees = row_from(web, number, 1)
    if len(trees) == 0:
        raise NoSuch(f"no tree of the row has the number {number}")
    return trees[0]


def row_last(web):
    refuse_parted(web)
    return row_at(web, tree_count(web) - 1)


def row_number(web, tree):
    refuse_no_tree(web, tree)
    return number_in(whole_part(web), tree_count(web), tuple(tree))


def row_next(web, tree):
    trees = row_from(web, row_number(web, tree) + 1, 1)
    return None if len(trees) == 0 else trees[0]


def row_ahead(web, tree):
    number = row_number(web, tree)
    return None if number == 0 else row_at(web, number - 1)


def row_step(web, tree):
    behind = row_next(web, tree)
    if behind is None:
        return None
    out = [tie for tie in tree if tie not in behind]
    into = [tie for tie in behind if tie not in tree]
    return (out[0], into[0])
