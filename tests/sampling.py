"""Webs to test with, and answers found by going through everything, apart from the program's own ways."""

from itertools import combinations, combinations_with_replacement, product
from random import Random

from spanrow.webs import Web

# As far from 0 as a number that is handed in may be.
FAR = 10 ** 60 - 1
# A loop (3), twins (1 and 2), the rest a ring of three places with one hung on.
WEB = Web(4, [(0, 1), (1, 2), (2, 1), (3, 3), (2, 0), (0, 3)])
# All trees of this web, and what is no tree or no set of its ties.
TREES = ((0, 1, 5), (0, 2, 5), (0, 4, 5), (1, 4, 5), (2, 4, 5))
NO_TREES = (
    [], [0, 1], [0, 1, 4], [0, 1, 2], [1, 2, 5], [0, 3, 5], [0, 1, 4, 5], [0, 0, 5], [5, 1, 0], [1, 0, 5],
    [0, 1, 6], [-1, 0, 1], [0, 1, -1], [0, 1, FAR], [-FAR, 0, 1],
)
NO_SETS = ([0, 0], [1, 0], [0, 2, 1], [6], [0, 6], [-1], [-1, 0], [FAR], [-FAR], [0, 1, 2, 3, 4, 5, 6])


def small_webs():
    """All webs of 1 to 3 places and up to 4 ties, but for the order of a tie's ends."""
    webs = []
    for places in (1, 2, 3):
        kinds = list(combinations_with_replacement(range(places), 2))
        for size in range(5):
            webs.extend(Web(places, list(ties)) for ties in product(kinds, repeat=size))
    return webs


def some_webs():
    """Webs with more in them: ends either way round, loops, twins, parted ones."""
    return [
        Web(4, [(0, 1), (0, 2), (0, 3), (1, 2), (1, 3), (2, 3)]),
        Web(4, [(3, 3), (3, 2), (2, 3), (0, 3), (1, 0), (0, 1), (1, 2), (0, 0)]),
        Web(5, [(4, 0), (3, 1), (1, 4), (2, 2), (4, 2), (2, 3), (3, 2), (0, 1)]),
        Web(5, [(0, 1), (1, 2), (2, 0), (3, 4), (4, 3)]),
        Web(6, [(5, 4), (4, 3), (3, 2), (2, 1), (1, 0), (0, 5), (0, 3), (1, 4)]),
        Web(6, [(0, 5), (1, 4), (2, 3)]),
        Web(7, [(0, 1), (1, 2), (2, 3), (3, 4), (4, 5), (5, 6)]),
    ]


def joined_webs():
    return [web for web in small_webs() + some_webs() if len(plain_trees(web)) > 0]


def fullest_web():
    """As many places and ties as there may be."""
    ring = [(place, (place + 1) % 14) for place in range(14)]
    across = [(place + 7, place) for place in range(7)]
    twins = [(place, (place + 3) % 14) for place in range(6)] + [(1, 0), (9, 8)]
    return Web(14, ring + across + twins + [(13, 13)])


def reached(web, ties, start):
    """The places to which ties lead from one place, by walking."""
    seen = [start]
    for place in seen:
        for tie in ties:
            for here, there in (web.ties[tie], web.ties[tie][::-1]):
                if here == place and there not in seen:
                    seen.append(there)
    return sorted(seen)


def joins_all(web, ties):
    return len(reached(web, ties, 0)) == web.places


def is_plain_tree(web, ties):
    """The words of [2.1]: all one piece, and no tie can be left out."""
    ties = list(ties)
    if not joins_all(web, ties):
        return False
    return not any(joins_all(web, [tie for tie in ties if tie != out]) for out in ties)


def all_sets(web):
    numbers = range(len(web.ties))
    return [ties for size in range(len(web.ties) + 1) for ties in combinations(numbers, size)]


def plain_trees(web):
    """All trees of a web, ascending."""
    return sorted(ties for ties in combinations(range(len(web.ties)), web.places - 1) if is_plain_tree(web, ties))


def plain_exchanges(web, tree):
    """All pairs of numbers gone through, ascending."""
    beside = [tie for tie in range(len(web.ties)) if tie not in tree]
    return [(out, into) for out in tree for into in beside
            if is_plain_tree(web, [tie for tie in tree if tie != out] + [into])]


def web_state(web):
    return (web.places, list(web.ties))


def chance_webs(seed, many, most_places, most_ties):
    """Webs as chance has it, the same ones each time for one seed; some are not joined."""
    chance = Random(seed)
    webs = []
    for number in range(many):
        places = chance.randint(1, most_places)
        size = chance.randint(0, most_ties)
        webs.append(Web(places, [(chance.randrange(places), chance.randrange(places)) for tie in range(size)]))
    return webs


def great_webs(seed, many):
    """Joined webs of 14 places and 30 ties, loops and twins among them, as chance has it."""
    chance = Random(seed)
    webs = []
    for number in range(many):
        ties = [(chance.randrange(place), place) for place in range(1, 14)]
        ties += [(chance.randrange(14), chance.randrange(14)) for tie in range(17)]
        chance.shuffle(ties)
        webs.append(Web(14, ties))
    return webs


def wheel_web():
    """A hub and a rim of 13 places, with 26 ties: its trees are known to be 271441."""
    rim = [(place, place % 13 + 1) for place in range(1, 14)]
    return Web(14, rim + [(0, place) for place in range(1, 14)])


def trees_with(web, inside, outside):
    """The trees with some ties and without some others, ascending."""
    return [tree for tree in plain_trees(web) if set(inside) <= set(tree) and not set(outside) & set(tree)]
