import unittest
from itertools import product
from random import Random
from time import perf_counter

from sampling import (
    FAR, NO_TREES, TREES, WEB, chance_webs, fullest_web, great_webs, is_plain_tree, plain_exchanges, plain_trees,
    some_webs, web_state, wheel_web,
)
from spanrow.between import differ, far_tree, partner_of, walk_between, walked
from spanrow.counts import count_with, tree_count
from spanrow.errors import NoTie, NoTree
from spanrow.plain import tree_at
from spanrow.trees import exchanged
from spanrow.webs import Web

GREAT = great_webs(81, 6) + [fullest_web(), wheel_web()]


def little_webs():
    """Webs whose trees can be taken two by two."""
    webs = some_webs() + chance_webs(82, 120, 5, 8) + [Web(1, []), Web(1, [(0, 0)]), Web(2, [(0, 1)] * 5)]
    return [web for web in webs if 0 < len(plain_trees(web)) <= 60]


LITTLE = [(web, plain_trees(web)) for web in little_webs()]


def swapped(tree, out, into):
    return tuple(sorted(set(tree) - {out} | {into}))


class Walks(unittest.TestCase):
    """[7.1]"""

    def test_differ_against_all_trees(self):
        for web, trees in LITTLE:
            for one, other in product(trees, repeat=2):
                self.assertEqual(differ(web, one, other), len(set(one) - set(other)))
                self.assertEqual(differ(web, list(one), other), differ(web, other, list(one)))
        self.assertEqual(differ(WEB, (0, 1, 5), (2, 4, 5)), 2)

    def test_walks_between_all_trees(self):
        for web, trees in LITTLE:
            before = web_state(web)
            for one, other in product(trees, repeat=2):
                self.look_at_walk(web, one, other)
            self.assertEqual(web_state(web), before)

    def look_at_walk(self, web, one, other):
        handed, handed_other = list(one), list(other)
        walk = walk_between(web, handed, handed_other)
        self.assertEqual((handed, handed_other), (list(one), list(other)))
        self.assertIs(type(walk), list)
        self.assertEqual(len(walk), len(set(one) - set(other)))
        tree = one
        for pair in walk:
            self.assertIs(type(pair), tuple)
            out, into = pair
            self.assertTrue(out in tree and into not in tree)
            tree = swapped(tree, out, into)
            self.assertTrue(is_plain_tree(web, tree))
        self.assertEqual(tree, other)
        self.assertEqual(walked(web, one, walk), other)
        self.assertEqual(walk_between(web, one, other), walk)

    def test_walked_over_many_exchanges(self):
        chance = Random(83)
        for web, trees in LITTLE:
            for step in range(4):
                start = tree = chance.choice(trees)
                walk = []
                for number in range(6):
                    pairs = plain_exchanges(web, tree)
                    if pairs:
                        walk.append(chance.choice(pairs))
                        tree = swapped(tree, *walk[-1])
                handed = list(walk)
                for start_handed in (start, list(start)):
                    told = walked(web, start_handed, handed)
                    self.assertEqual(told, tree)
                    self.assertIs(type(told), tuple)
                    self.assertEqual(walked(web, start_handed, tuple(walk)), tree)
                self.assertEqual(handed, walk)

    def test_walked_with_a_pair_that_is_no_exchange(self):
        for walk in ([(0, 0)], [(0, 3)], [(4, 0)], [(0, 1)], [(0, 6)], [(0, -2)], [(FAR, 4)], [(5, 4)],
                     [(0, 4), (0, 4)], [(0, 4), (1, 4)], [(1, 2), (1, 4)], [(0, 4), (4, 0), (4, 0)]):
            with self.assertRaises(NoTie, msg=repr(walk)):
                walked(WEB, (0, 1, 5), walk)
        self.assertEqual(walked(WEB, [0, 1, 5], []), (0, 1, 5))
        self.assertEqual(walked(WEB, [0, 1, 5], [(0, 4), (4, 0)]), (0, 1, 5))

    def test_no_tree(self):
        for tree, fine in product(NO_TREES, TREES):
            for handed in (list(tree), tuple(tree)):
                for asked in (differ, walk_between):
                    with self.assertRaises(NoTree):
                        asked(WEB, handed, fine)
                    with self.assertRaises(NoTree):
                        asked(WEB, fine, handed)
                    with self.assertRaises(NoTree):
                        asked(WEB, handed, handed)
                for walk in ([], [(0, 4)], [(9, 9)]):
                    with self.assertRaises(NoTree):
                        walked(WEB, handed, walk)

    def test_great_webs(self):
        chance = Random(84)
        begun = perf_counter()
        for web in GREAT:
            size = tree_count(web)
            for step in range(5):
                one, other = tree_at(web, chance.randrange(size)), tree_at(web, chance.randrange(size))
                self.assertEqual(differ(web, one, other), len(set(one) - set(other)))
                self.look_at_walk(web, one, other)
        self.assertLess(perf_counter() - begun, 60)


class Partners(unittest.TestCase):
    """[7.2]"""

    def test_against_all_trees(self):
        for web, trees in LITTLE:
            before = web_state(web)
            for one, other in product(trees[:12], trees[-12:]):
                for tie in set(one) - set(other):
                    fitting = [into for into in other if into not in one
                               and swapped(one, tie, into) in trees and swapped(other, into, tie) in trees]
                    self.assertEqual(partner_of(web, one, other, tie), min(fitting))
                    self.assertEqual(partner_of(web, list(one), list(other), tie), min(fitting))
            self.assertEqual(web_state(web), before)

    def test_told_by_hand(self):
        # For tie 4 the one tree would take 0 as well, but the other one is no tree with 4 in for 0.
        web = Web(4, [(0, 1), (1, 2), (0, 2), (2, 3), (3, 0)])
        self.assertEqual(partner_of(web, (1, 3, 4), (0, 2, 3), 1), 0)
        self.assertEqual(partner_of(web, (1, 3, 4), (0, 2, 3), 4), 2)

    def test_no_tie(self):
        for one, other in product(TREES, repeat=2):
            alone = [tie for tie in one if tie not in other]
            for tie in list(range(-7, 9)) + [FAR, -FAR]:
                if tie not in alone:
                    with self.assertRaises(NoTie):
                        partner_of(WEB, one, other, tie)

    def test_no_tree_goes_ahead(self):
        for tree, fine in product(NO_TREES, TREES):
            for tie in list(range(-1, 7)) + [FAR]:
                with self.assertRaises(NoTree):
                    partner_of(WEB, list(tree), fine, tie)
                with self.assertRaises(NoTree):
                    partner_of(WEB, fine, tuple(tree), tie)

    def test_great_webs(self):
        chance = Random(85)
        for web in GREAT:
            size = tree_count(web)
            one, other = tree_at(web, chance.randrange(size)), tree_at(web, chance.randrange(size))
            for tie in set(one) - set(other):
                fitting = [into for into in other if into not in one and is_plain_tree(web, swapped(one, tie, into))
                           and is_plain_tree(web, swapped(other, into, tie))]
                self.assertEqual(partner_of(web, one, other, tie), min(fitting))


class FarTrees(unittest.TestCase):
    """[7.3]"""

    def test_against_all_trees(self):
        for web, trees in LITTLE:
            before = web_state(web)
            for tree in trees:
                asked = min(trees, key=lambda other: (len(set(tree) & set(other)), other))
                handed = list(tree)
                for told in (far_tree(web, tree), far_tree(web, handed)):
                    self.assertEqual(told, asked)
                    self.assertIs(type(told), tuple)
                self.assertEqual(handed, list(tree))
            self.assertEqual(web_state(web), before)

    def test_told_by_hand(self):
        self.assertEqual(far_tree(WEB, (0, 1, 5)), (2, 4, 5))
        self.assertEqual(far_tree(Web(1, [(0, 0)]), ()), ())
        self.assertEqual(far_tree(Web(2, [(0, 1)]), (0,)), (0,))
        self.assertEqual(far_tree(Web(2, [(0, 1)] * 3), (0,)), (1,))

    def test_no_tree(self):
        for tree in NO_TREES:
            for handed in (list(tree), tuple(tree)):
                with self.assertRaises(NoTree):
                    far_tree(WEB, handed)
        with self.assertRaises(NoTree):
            far_tree(Web(2, []), [])

    def test_great_webs(self):
        chance = Random(86)
        begun = perf_counter()
        for web in GREAT:
            size = tree_count(web)
            for step in range(5):
                tree = tree_at(web, chance.randrange(size))
                told = far_tree(web, tree)
                self.assertTrue(is_plain_tree(web, told))
                # No exchange leaves fewer ties in common, nor as many and a lesser tree.
                for out, into in plain_exchanges(web, told):
                    other = exchanged(web, told, out, into)
                    self.assertLess((len(set(tree) & set(told)), told), (len(set(tree) & set(other)), other))
                # Trees without any tie of the tree there are just where it has none in common.
                self.assertIs(count_with(web, (), tree) > 0, set(tree).isdisjoint(told))
        self.assertLess(perf_counter() - begun, 60)


if __name__ == "__main__":
    unittest.main()
