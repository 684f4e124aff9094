import unittest
from math import prod
from random import Random
from time import perf_counter

from sampling import (
    FAR, NO_SETS, WEB, all_sets, chance_webs, fullest_web, great_webs, joins_all, plain_trees, reached, small_webs,
    some_webs, web_state, wheel_web,
)
from spanrow.counts import count_with, tree_count
from spanrow.errors import BadRow, BadSet, NoSuch
from spanrow.sums import rooted_forests, sorts_at, sorts_of, tree_sum, weight_of
from spanrow.webs import Web

PARTED = [Web(2, []), Web(2, [(0, 0), (1, 1)]), Web(3, [(0, 1), (1, 0)]), Web(14, [(0, 13)] * 30)]
WEBS = [(web, plain_trees(web)) for web in small_webs()[::3] + some_webs() + chance_webs(121, 80, 6, 9)]
GREAT = great_webs(122, 5) + [fullest_web(), wheel_web()]


def wrong_rows(web):
    size = len(web.ties)
    return [[1] * other for other in (0, size - 1, size + 1, 2 * size + 1) if other >= 0 and other != size]


def chance_weights(chance, web):
    far = chance.choice([1, 3, 10 ** 6, FAR])
    return [chance.choice([0, chance.randint(-far, far), chance.randint(-far, far)]) for tie in web.ties]


def plain_sorts(web, trees, ties):
    return tuple(sum(1 for tree in trees if len(set(tree) & set(ties)) == number) for number in range(web.places))


def plain_forests(web):
    """All sets of ties without a ring gone through, with the roots that may be chosen."""
    told = [0] * (web.places + 1)
    for ties in all_sets(web):
        pieces = {tuple(reached(web, ties, place)) for place in range(web.places)}
        # Without a ring each tie makes the pieces one fewer.
        if len(ties) + len(pieces) == web.places:
            told[len(pieces)] += prod(len(piece) for piece in pieces)
    return tuple(told)


class Weights(unittest.TestCase):
    """[10.1]"""

    def test_told_by_hand(self):
        weights = [2, -3, 0, 5, 7, -1]
        self.assertEqual(weight_of(WEB, weights, ()), 1)
        self.assertEqual(weight_of(WEB, weights, (0, 1, 5)), 6)
        self.assertEqual(weight_of(WEB, weights, range(6)), 0)
        self.assertEqual(tree_sum(WEB, weights), 6 + 0 - 14 + 21 + 0)
        self.assertEqual(tree_sum(Web(1, []), []), 1)
        self.assertEqual(tree_sum(Web(1, [(0, 0)]), [9]), 1)

    def test_against_all_trees(self):
        chance = Random(123)
        for web, trees in WEBS:
            for number in range(3):
                weights = chance_weights(chance, web)
                before = (web_state(web), list(weights))
                asked = sum(prod(weights[tie] for tie in tree) for tree in trees)
                self.assertEqual(tree_sum(web, weights), asked)
                self.assertEqual(tree_sum(web, tuple(weights)), asked)
                ties = chance.choice(all_sets(web))
                for handed in (ties, list(ties)):
                    self.assertEqual(weight_of(web, weights, handed), prod(weights[tie] for tie in ties))
                    self.assertEqual(handed, type(handed)(ties))
                self.assertEqual((web_state(web), weights), before)

    def test_webs_without_a_tree(self):
        for web in PARTED:
            self.assertEqual(tree_sum(web, [-6] * len(web.ties)), 0)

    def test_great_webs(self):
        for web in GREAT:
            size = len(web.ties)
            self.assertEqual(tree_sum(web, [1] * size), tree_count(web))
            self.assertEqual(tree_sum(web, [-2] * size), (-2) ** 13 * tree_count(web))
            self.assertEqual(tree_sum(web, [FAR] * size), FAR ** 13 * tree_count(web))
            some = [tie % 3 for tie in range(size)]
            # The sum goes in a straight line with each weight.
            for tie in range(size):
                sums = [tree_sum(web, some[:tie] + [weight] + some[tie + 1:]) for weight in (-1, 0, 4)]
                self.assertEqual(sums[2] - sums[1], 4 * (sums[1] - sums[0]))
            outside = [tie for tie in range(size) if tie % 5 == 0]
            self.assertEqual(tree_sum(web, [0 if tie in outside else 1 for tie in range(size)]),
                             count_with(web, (), outside))

    def test_refusals_in_their_order(self):
        for ties in NO_SETS:
            for handed in (list(ties), tuple(ties)):
                with self.assertRaises(BadSet):
                    weight_of(WEB, [1] * 6, handed)
                for row in wrong_rows(WEB):
                    with self.assertRaises(BadRow):
                        weight_of(WEB, row, handed)
        for web in [WEB, Web(1, []), fullest_web()] + PARTED:
            for row in wrong_rows(web):
                with self.assertRaises(BadRow):
                    weight_of(web, row, ())
                with self.assertRaises(BadRow):
                    tree_sum(web, row)


class Sorts(unittest.TestCase):
    """[10.2]"""

    def test_told_by_hand(self):
        self.assertEqual(sorts_of(WEB, ()), (5, 0, 0, 0))
        self.assertEqual(sorts_of(WEB, (1, 2)), (1, 4, 0, 0))
        self.assertEqual(sorts_of(WEB, (0, 3, 4, 5)), (0, 0, 4, 1))
        self.assertEqual(sorts_of(WEB, range(6)), (0, 0, 0, 5))
        self.assertEqual(sorts_at(WEB, 3), (0, 5, 0, 0))
        self.assertEqual(sorts_at(WEB, 0), (0, 0, 4, 1))
        for web in (Web(1, []), Web(1, [(0, 0)])):
            self.assertEqual(sorts_at(web, 0), (1,))
            self.assertEqual(sorts_of(web, list(range(len(web.ties)))), (1,))

    def test_against_all_trees(self):
        chance = Random(124)
        for web, trees in WEBS:
            before = web_state(web)
            for ties in chance.sample(all_sets(web), min(8, 2 ** len(web.ties))):
                for handed in (ties, list(ties)):
                    told = sorts_of(web, handed)
                    self.assertEqual(told, plain_sorts(web, trees, ties), (before, ties))
                    self.assertTrue(type(told) is tuple and len(told) == web.places)
                    self.assertEqual(handed, type(handed)(ties))
            for place in range(web.places):
                ties = [tie for tie, ends in enumerate(web.ties) if ends[0] != ends[1] and place in ends]
                told = sorts_at(web, place)
                self.assertEqual(told, plain_sorts(web, trees, ties), (before, place))
                self.assertIs(type(told), tuple)
            self.assertEqual(web_state(web), before)

    def test_webs_that_are_not_joined(self):
        for web in PARTED:
            nothing = (0,) * web.places
            self.assertEqual(sorts_of(web, ()), nothing)
            self.assertEqual(sorts_of(web, range(len(web.ties))), nothing)
            self.assertEqual([sorts_at(web, place) for place in range(web.places)], [nothing] * web.places)

    def test_great_webs(self):
        for web in GREAT:
            size = tree_count(web)
            few = [2, 3, 9, 17]
            told = sorts_of(web, few)
            self.assertEqual((len(told), sum(told)), (14, size))
            self.assertEqual((told[0], told[4]), (count_with(web, (), few), count_with(web, few, ())))
            self.assertEqual(sum(number * many for number, many in enumerate(told)),
                             sum(count_with(web, (tie,), ()) for tie in few))
            self.assertEqual(sorts_of(web, range(len(web.ties))), (0,) * 13 + (size,))
            for place in range(14):
                self.assertEqual((sorts_at(web, place)[0], sum(sorts_at(web, place))), (0, size))

    def test_refusals(self):
        for ties in NO_SETS:
            for handed in (list(ties), tuple(ties)):
                with self.assertRaises(BadSet):
                    sorts_of(WEB, handed)
        for web in [WEB, Web(1, []), fullest_web()] + PARTED:
            for wrong in (-1, -web.places, web.places, web.places + 1, FAR, -FAR):
                with self.assertRaises(NoSuch):
                    sorts_at(web, wrong)
            with self.assertRaises(BadSet):
                sorts_of(web, [len(web.ties)])


class Forests(unittest.TestCase):
    """[10.3]"""

    def test_told_by_hand(self):
        self.assertEqual(rooted_forests(Web(1, [])), (0, 1))
        self.assertEqual(rooted_forests(Web(1, [(0, 0)])), (0, 1))
        self.assertEqual(rooted_forests(Web(2, [(0, 1), (1, 0)])), (0, 4, 1))
        self.assertEqual(rooted_forests(Web(3, [])), (0, 0, 0, 1))
        self.assertEqual(rooted_forests(Web(3, [(0, 1), (1, 2), (2, 0)])), (0, 9, 6, 1))

    def test_against_all_sets(self):
        for web in small_webs()[::3] + some_webs() + chance_webs(125, 60, 6, 8):
            before = web_state(web)
            told = rooted_forests(web)
            self.assertEqual(told, plain_forests(web), before)
            self.assertIs(type(told), tuple)
            self.assertEqual(web_state(web), before)

    def test_great_webs(self):
        begun = perf_counter()
        for web in GREAT + PARTED:
            told = rooted_forests(web)
            self.assertEqual(len(told), web.places + 1)
            self.assertEqual(told[0], 0)
            self.assertEqual(told[1], web.places * tree_count(web))
            self.assertEqual(told[web.places], 1)
            # A single tie, with one of its two ends for a root.
            ties = sum(1 for ends in web.ties if ends[0] != ends[1])
            self.assertEqual(told[web.places - 1], 2 * ties)
            self.assertIs(told[1] > 0, joins_all(web, range(len(web.ties))))
        # All ways to choose roots of a whole web: places over k, times k, times places to what is left.
        whole = [(one, other) for one in range(8) for other in range(one)]
        self.assertEqual(rooted_forests(Web(8, whole)),
                         (0, 8 ** 7, 7 * 8 ** 6, 21 * 8 ** 5, 35 * 8 ** 4, 35 * 8 ** 3, 21 * 8 ** 2, 7 * 8, 1))
        self.assertLess(perf_counter() - begun, 60)


if __name__ == "__main__":
    unittest.main()
