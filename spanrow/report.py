"""A short report of a web with lengths."""

from spanrow.cheapest import cheapest_tree, length_of
from spanrow.counts import tree_count
from spanrow.shares import share_of
from spanrow.texts import fraction_text, length_text
from spanrow.webs import all_ties, refuse_bad_row


def report(web, lengths):
    refuse_bad_row(web, lengths)
    many = tree_count(web)
    lines = [f"trees {many}"]
    if many > 0:
        tree = cheapest_tree(web, lengths)
        lines.append("cheapest " + length_text(length_of(web, lengths, tree), tree))
        lines.extend([f"tie {tie}: " + fraction_text(share_of(web, (tie,))) for tie in all_ties(web)])
    return lines
