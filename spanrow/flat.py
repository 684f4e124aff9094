"""Webs that lie flat: the rounds of their darts, and the other web."""

from spanrow.errors import BadTurns, NotFlat
from spanrow.trees import refuse_no_tree
from spanrow.webs import Web, all_ties, is_joined, ties_beside


# The darts of each place, ascending: the even one leads from the tie's first end, the odd one from its second.
def darts_away(web):
    darts = [[] for place in range(web.places)]
    for tie, ends in enumerate(web.ties):
        darts[ends[0]].append(2 * tie)
        darts[ends[1]].append(2 * tie + 1)
    return darts


def refuse_bad_turns(web, turns):
    if [sorted(turn) for turn in turns] != darts_away(web):
        raise BadTurns("the turns don't hold each dart once, at the place from which it leads")


def back_dart(dart):
    return dart + 1 if dart % 2 == 0 else dart - 1


# For each dart the one that comes behind it.
def darts_behind(turns):
    behind = {}
    for turn in turns:
        for at, dart in enumerate(turn):
            behind[back_dart(dart)] = turn[(at + 1) % len(turn)]
    return behind


def round_from(behind, start):
    found = [start]
    dart = behind[start]
    while dart != start:
        found.append(dart)
        dart = behind[dart]
    return found


def rounds_of(web, turns):
    refuse_bad_turns(web, turns)
    if len(web.ties) == 0:
        return [[]]
    behind = darts_behind(turns)
    rounds = []
    gone = {}
    # Ascending, so that each round comes up at its least dart.
    for dart in range(2 * len(web.ties)):
        if dart not in gone:
            found = round_from(behind, dart)
            rounds.append(found)
            for walked in found:
                gone[walked] = True
    return rounds


def lies_flat(web, turns):
    rounds = rounds_of(web, turns)
    return is_joined(web, all_ties(web)) and web.places - len(web.ties) + len(rounds) == 2


def round_numbers(rounds):
    numbers = {}
    for number, darts in enumerate(rounds):
        for dart in darts:
            numbers[dart] = number
    return numbers


def other_web(web, turns):
    if not lies_flat(web, turns):
        raise NotFlat("the web does not lie flat by these turns")
    rounds = rounds_of(web, turns)
    numbers = round_numbers(rounds)
    return Web(len(rounds), [(numbers[2 * tie], numbers[2 * tie + 1]) for tie in all_ties(web)])


def left_of(web, tree):
    refuse_no_tree(web, tree)
    return ties_beside(web, tree)
