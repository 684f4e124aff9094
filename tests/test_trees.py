import unittest
from itertools import product

from sampling import (
    FAR, NO_TREES, WEB, all_sets, fullest_web, is_plain_tree, joined_webs, plain_exchanges, plain_trees, reached,
    small_webs, some_webs, web_state,
)
from spanrow.errors import NoTie, NoTree, Parted
from spanrow.trees import cut_of, exchanged, exchanges_of, is_tree, least_tree, ring_of
from spanrow.webs import Web

JOINED = joined_webs()


def wrong_ties(web):
    return [-1, -2, -len(web.ties), len(web.ties), len(web.ties) + 1, FAR, -FAR]


def plain_cut(web, tree, tie):
    side = reached(web, [kept for kept in tree if kept != tie], web.ties[tie][0])
    return tuple(number for number, (one, other) in enumerate(web.ties) if (one in side) != (other in side))


def plain_ring(web, tree, tie):
    """The least set of ties that leads from the one end to the other, and the tie."""
    one, other = web.ties[tie]
    path = list(tree)
    for out in tree:
        fewer = [kept for kept in path if kept != out]
        if other in reached(web, fewer, one):
            path = fewer
    return tuple(sorted(path + [tie]))


class Trees(unittest.TestCase):
    """[2.1]"""

    def test_is_tree_of_all_sets(self):
        for web in small_webs() + some_webs():
            for ties in all_sets(web):
                asked = is_plain_tree(web, ties)
                self.assertIs(is_tree(web, ties), asked)
                self.assertIs(is_tree(web, list(ties)), asked)

    def test_is_tree_of_any_numbers(self):
        for web in (Web(1, []), Web(1, [(0, 0)]), Web(2, [(0, 1), (1, 0)]), Web(3, [(0, 1), (2, 1), (2, 0)])):
            trees = plain_trees(web)
            numbers = list(range(-2, len(web.ties) + 2)) + [FAR, -FAR]
            for size in range(4):
                for ties in product(numbers, repeat=size):
                    self.assertIs(is_tree(web, list(ties)), ties in trees, ties)

    def test_no_trees(self):
        self.assertIs(is_tree(WEB, [0, 1, 5]), True)
        for ties in NO_TREES:
            self.assertIs(is_tree(WEB, ties), False, ties)
            self.assertIs(is_tree(WEB, tuple(ties)), False, ties)

    def test_one_place(self):
        for web in (Web(1, []), Web(1, [(0, 0), (0, 0)])):
            self.assertIs(is_tree(web, []), True)
            self.assertIs(is_tree(web, ()), True)
            self.assertIs(is_tree(web, [0]), False)
            self.assertEqual(least_tree(web), ())

    def test_least_tree_against_all_trees(self):
        for web in small_webs() + some_webs():
            trees = plain_trees(web)
            if trees:
                self.assertEqual(least_tree(web), trees[0])
                self.assertIs(type(least_tree(web)), tuple)
            else:
                with self.assertRaises(Parted):
                    least_tree(web)

    def test_least_tree_of_the_most_places(self):
        self.assertEqual(least_tree(fullest_web()), tuple(range(13)))
        with self.assertRaises(Parted):
            least_tree(Web(14, [(place, place + 1) for place in range(12)]))
        with self.assertRaises(Parted):
            least_tree(Web(2, [(0, 0), (1, 1)]))

    def test_what_is_handed_in_stays(self):
        before = web_state(WEB)
        ties = [0, 1, 5]
        is_tree(WEB, ties)
        self.assertEqual(ties, [0, 1, 5])
        self.assertEqual(least_tree(WEB), (0, 1, 5))
        self.assertEqual(web_state(WEB), before)


class RingsAndCuts(unittest.TestCase):
    """[2.2]"""

    def test_rings_and_cuts_told_by_hand(self):
        self.assertEqual(ring_of(WEB, (0, 1, 5), 2), (1, 2))
        self.assertEqual(ring_of(WEB, (0, 1, 5), 3), (3,))
        self.assertEqual(ring_of(WEB, (0, 1, 5), 4), (0, 1, 4))
        self.assertEqual(ring_of(WEB, (1, 4, 5), 0), (0, 1, 4))
        self.assertEqual(cut_of(WEB, (0, 1, 5), 0), (0, 4))
        self.assertEqual(cut_of(WEB, (0, 1, 5), 1), (1, 2, 4))
        self.assertEqual(cut_of(WEB, (0, 1, 5), 5), (5,))

    def test_each_tie_of_each_tree(self):
        for web in JOINED:
            for tree in plain_trees(web):
                for tie in range(len(web.ties)):
                    told, asked = (cut_of, plain_cut) if tie in tree else (ring_of, plain_ring)
                    answer = told(web, tree, tie)
                    self.assertEqual(answer, asked(web, tree, tie))
                    self.assertIs(type(answer), tuple)
                    self.assertEqual(told(web, list(tree), tie), answer)

    def test_the_most_ties(self):
        web = fullest_web()
        tree = tuple(range(13))
        self.assertEqual(ring_of(web, tree, 13), tuple(range(14)))
        for tie in range(30):
            if tie in tree:
                self.assertEqual(cut_of(web, tree, tie), plain_cut(web, tree, tie))
            else:
                self.assertEqual(ring_of(web, tree, tie), plain_ring(web, tree, tie))

    def test_no_tie_and_the_wrong_side(self):
        for web in JOINED:
            for tree in plain_trees(web):
                for handed in (tree, list(tree)):
                    beside = [tie for tie in range(len(web.ties)) if tie not in tree]
                    for tie in list(tree) + wrong_ties(web):
                        if tie in beside:
                            continue
                        with self.assertRaises(NoTie):
                            ring_of(web, handed, tie)
                    for tie in beside + wrong_ties(web):
                        if tie in tree:
                            continue
                        with self.assertRaises(NoTie):
                            cut_of(web, handed, tie)

    def test_no_tree_goes_ahead(self):
        for tree in NO_TREES:
            for handed in (list(tree), tuple(tree)):
                for tie in list(range(6)) + wrong_ties(WEB):
                    with self.assertRaises(NoTree):
                        ring_of(WEB, handed, tie)
                    with self.assertRaises(NoTree):
                        cut_of(WEB, handed, tie)

    def test_a_parted_web_has_no_tree(self):
        web = Web(3, [(0, 1), (1, 0)])
        for tree in ([], [0], [0, 1]):
            with self.assertRaises(NoTree):
                ring_of(web, tree, 1)
            with self.assertRaises(NoTree):
                cut_of(web, tree, 0)

    def test_what_is_handed_in_stays(self):
        before = web_state(WEB)
        tree = [0, 1, 5]
        self.assertEqual(ring_of(WEB, tree, 4), ring_of(WEB, tree, 4))
        self.assertEqual(cut_of(WEB, tree, 1), cut_of(WEB, tree, 1))
        self.assertEqual(tree, [0, 1, 5])
        self.assertEqual(web_state(WEB), before)


class Exchanges(unittest.TestCase):
    """[2.3]"""

    def test_told_by_hand(self):
        self.assertEqual(exchanges_of(WEB, (0, 1, 5)), [(0, 4), (1, 2), (1, 4)])
        self.assertEqual(exchanged(WEB, (0, 1, 5), 0, 4), (1, 4, 5))
        self.assertEqual(exchanged(WEB, (1, 4, 5), 4, 0), (0, 1, 5))
        self.assertEqual(exchanges_of(Web(1, [(0, 0)]), ()), [])

    def test_all_pairs(self):
        for web in JOINED:
            numbers = list(range(len(web.ties))) + [-1, len(web.ties)]
            for tree in plain_trees(web):
                asked = plain_exchanges(web, tree)
                told = exchanges_of(web, tree)
                self.assertEqual(told, asked)
                self.assertIs(type(told), list)
                self.assertTrue(all(type(pair) is tuple for pair in told))
                self.assertEqual(exchanges_of(web, list(tree)), asked)
                for pair in product(numbers, repeat=2):
                    self.look_at_pair(web, tree, pair, pair in asked)

    def look_at_pair(self, web, tree, pair, is_exchange):
        out, into = pair
        for handed in (tree, list(tree)):
            if is_exchange:
                told = exchanged(web, handed, out, into)
                self.assertEqual(told, tuple(sorted(set(tree) - {out} | {into})))
                self.assertIs(type(told), tuple)
                self.assertTrue(is_plain_tree(web, told))
            else:
                with self.assertRaises(NoTie):
                    exchanged(web, handed, out, into)

    def test_rings_cuts_and_exchanges_agree(self):
        for web in JOINED:
            for tree in plain_trees(web):
                told = exchanges_of(web, tree)
                for out in tree:
                    for into in [tie for tie in range(len(web.ties)) if tie not in tree]:
                        self.assertIs(out in ring_of(web, tree, into), (out, into) in told)
                        self.assertIs(into in cut_of(web, tree, out), (out, into) in told)

    def test_the_most_ties(self):
        web = fullest_web()
        tree = tuple(range(13))
        told = exchanges_of(web, tree)
        self.assertEqual(told, plain_exchanges(web, tree))
        for out, into in product(range(-1, 31), repeat=2):
            self.look_at_pair(web, tree, (out, into), (out, into) in told)

    def test_far_numbers_are_no_exchange(self):
        for out, into in product([0, 1, 5, 4] + wrong_ties(WEB), repeat=2):
            self.look_at_pair(WEB, (0, 1, 5), (out, into), (out, into) in [(0, 4), (1, 4)])

    def test_no_tree_goes_ahead(self):
        for tree in NO_TREES:
            for handed in (list(tree), tuple(tree)):
                with self.assertRaises(NoTree):
                    exchanges_of(WEB, handed)
                for pair in product(list(range(6)) + wrong_ties(WEB), repeat=2):
                    with self.assertRaises(NoTree):
                        exchanged(WEB, handed, *pair)

    def test_what_is_told_may_be_changed_and_what_is_handed_in_stays(self):
        before = web_state(WEB)
        tree = [0, 1, 5]
        told = exchanges_of(WEB, tree)
        told.append((9, 9))
        self.assertEqual(exchanges_of(WEB, tree), [(0, 4), (1, 2), (1, 4)])
        exchanged(WEB, tree, 0, 4)
        self.assertEqual(tree, [0, 1, 5])
        self.assertEqual(web_state(WEB), before)


if __name__ == "__main__":
    unittest.main()
