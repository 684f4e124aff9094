"""Webs to test with, and answers found by going through everything, apart from the program's own ways."""

from itertools import combinations, combinations_with_replacement, product

from spanrow.webs import Web


def small_webs():
    """All webs of 1 to 3 places and up to 4 ties, but for the order of a tie's ends."""
    webs = []
    for places in (1, 2, 3):
        kinds = list(combinations_with_replacement(range(places), 2))
        for size in range(5):
            webs.extend(Web(places, list(ties)) for ties in product(kinds, repeat=size))
    return webs


def some_webs():
    """Webs with more in them: ends either way round, loops, twins, parted ones."""
    return [
        Web(4, [(0, 1), (0, 2), (0, 3), (1, 2), (1, 3), (2, 3)]),
        Web(4, [(3, 3), (3, 2), (2, 3), (0, 3), (1, 0), (0, 1), (1, 2), (0, 0)]),
        Web(5, [(4, 0), (3, 1), (1, 4), (2, 2), (4, 2), (2, 3), (3, 2), (0, 1)]),
        Web(5, [(0, 1), (1, 2), (2, 0), (3, 4), (4, 3)]),
        Web(6, [(5, 4), (4, 3), (3, 2), (2, 1), (1, 0), (0, 5), (0, 3), (1, 4)]),
        Web(6, [(0, 5), (1, 4), (2, 3)]),
        Web(7, [(0, 1), (1, 2), (2, 3), (3, 4), (4, 5), (5, 6)]),
    ]


def joined_webs():
    return [web for web in small_webs() + some_webs() if len(plain_trees(web)) > 0]


def fullest_web():
    """As many places and ties as there may be."""
    ring = [(place, (place + 1) % 14) for place in range(14)]
    across = [(place + 7, place) for place in range(7)]
    twins = [(place, (place + 3) % 14) for place in range(6)] + [(1, 0), (9, 8)]
    return Web(14, ring + across + twins + [(13, 13)])


def reached(web, ties, start):
    """The places to which ties lead from one place, by walking."""
    seen = [start]
    for place in seen:
        for tie in ties:
            for here, there in (web.ties[tie], web.ties[tie][::-1]):
                if here == place and there not in seen:
                    seen.append(there)
    return sorted(seen)


def joins_all(web, ties):
    return len(reached(web, ties, 0)) == web.places


def is_plain_tree(web, ties):
    """The words of [2.1]: all one piece, and no tie can be left out."""
    ties = list(ties)
    if not joins_all(web, ties):
        return False
    return not any(joins_all(web, [tie for tie in ties if tie != out]) for out in ties)


def all_sets(web):
    numbers = range(len(web.ties))
    return [ties for size in range(len(web.ties) + 1) for ties in combinations(numbers, size)]


def plain_trees(web):
    """All trees of a web, ascending."""
    return sorted(ties for ties in combinations(range(len(web.ties)), web.places - 1) if is_plain_tree(web, ties))


def plain_exchanges(web, tree):
    """All pairs of numbers gone through, ascending."""
    beside = [tie for tie in range(len(web.ties)) if tie not in tree]
    return [(out, into) for out in tree for into in beside
            if is_plain_tree(web, [tie for tie in tree if tie != out] + [into])]


def web_state(web):
    return (web.places, list(web.ties))
