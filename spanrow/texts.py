"""Webs with lengths, and what is told of them, as texts."""

from spanrow.errors import BadText
from spanrow.webs import Web, refuse_bad_row

FIGURES = "0123456789"
MOST_FIGURES = 60


def is_number(word):
    figures = word[1:] if word.startswith("-") else word
    if not 1 <= len(figures) <= MOST_FIGURES or any([sign not in FIGURES for sign in figures]):
        return False
    return word == "0" or figures[0] != "0"


def read_number(word):
    if not is_number(word):
        raise BadText("a word is no number")
    return int(word)


# The numbers of a line that is a name and so many numbers.
def read_line(line, name, many):
    words = line.split(" ")
    if words[0] != name or len(words) != many + 1:
        raise BadText(f"a line is not as one of {name} must be")
    return [read_number(word) for word in words[1:]]


def read_web(text):
    lines = text.split("\n")
    places = read_line(lines[0], "places", 1)
    ties = [read_line(line, "tie", 3) for line in lines[1:]]
    return (Web(places[0], [(tie[0], tie[1]) for tie in ties]), [tie[2] for tie in ties])


def numbers_text(numbers):
    return " ".join([str(number) for number in numbers])


def web_text(web, lengths):
    refuse_bad_row(web, lengths)
    lines = ["places " + str(web.places)]
    for ends, length in zip(web.ties, lengths):
        lines.append("tie " + numbers_text([ends[0], ends[1], length]))
    return "\n".join(lines)


def ties_text(ties):
    return numbers_text(ties) if len(ties) > 0 else "-"


def fraction_text(pair):
    return str(pair[0]) + "/" + str(pair[1])


# A tree behind its length, as it is told in more than one place.
def length_text(length, tree):
    return str(length) + ": " + ties_text(tree)
