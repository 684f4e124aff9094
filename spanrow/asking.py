"""The lines that may be asked of a web with lengths, and the texts that answer them."""

from spanrow.cheapest import cheapest_tree
from spanrow.counts import tree_count
from spanrow.errors import BadText
from spanrow.plain import number_of, tree_at
from spanrow.ranking import ranked
from spanrow.rowing import row_at, row_next, row_number
from spanrow.shares import share_of
from spanrow.texts import fraction_text, length_text, read_number, ties_text

ALONE = ("count", "cheapest")
OF_A_NUMBER = ("tree", "row", "rank")
OF_TIES = ("number", "place", "next", "share")


def answer_alone(web, lengths, name):
    if name == "count":
        return str(tree_count(web))
    return ties_text(cheapest_tree(web, lengths))


def rank_text(web, lengths, most):
    return "\n".join([length_text(length, tree) for length, tree in ranked(web, lengths, most)])


def answer_of_number(web, lengths, name, number):
    if name == "tree":
        return ties_text(tree_at(web, number))
    if name == "row":
        return ties_text(row_at(web, number))
    return rank_text(web, lengths, number)


def next_text(web, tree):
    behind = row_next(web, tree)
    return "none" if behind is None else ties_text(behind)


def answer_of_ties(web, name, ties):
    if name == "number":
        return str(number_of(web, ties))
    if name == "place":
        return str(row_number(web, ties))
    if name == "next":
        return next_text(web, ties)
    return fraction_text(share_of(web, ties))


def read_ties(words):
    if words == ["-"]:
        return []
    return [read_number(word) for word in words]


def answer_to(web, lengths, line):
    words = line.split(" ")
    name = words[0]
    if name in ALONE and len(words) == 1:
        return answer_alone(web, lengths, name)
    if name in OF_A_NUMBER and len(words) == 2:
        return answer_of_number(web, lengths, name, read_number(words[1]))
    if name in OF_TIES and len(words) > 1:
        return answer_of_ties(web, name, read_ties(words[1:]))
    raise BadText("no line that may be asked")
