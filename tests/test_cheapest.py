import unittest
from itertools import product
from random import Random
from time import perf_counter

from sampling import (
    FAR, NO_SETS, NO_TREES, TREES, WEB, all_sets, chance_webs, fullest_web, great_webs, is_plain_tree, plain_exchanges,
    plain_trees, small_webs, some_webs, web_state, wheel_web,
)
from spanrow.cheapest import (
    cheapest_at, cheapest_count, cheapest_number, cheapest_tree, gains_of, is_cheapest, length_of,
)
from spanrow.counts import tree_count
from spanrow.errors import BadRow, BadSet, NoSuch, NoTree, Parted
from spanrow.plain import tree_at
from spanrow.webs import Web

LENGTHS = [3, -1, 2, 0, 3, 7]
PARTED = [Web(2, []), Web(2, [(0, 0), (1, 1)]), Web(3, [(0, 1), (1, 0)]), Web(14, [(0, 13)] * 30)]
GREAT = great_webs(101, 6) + [fullest_web(), wheel_web()]


def chance_lengths(chance, web):
    """Many alike, few alike, all alike, of either sign, of sixty figures."""
    spread = chance.choice([(0, 0), (0, 1), (-1, 1), (-3, 3), (5, 9), (-99, 99), (-FAR, FAR), (FAR - 1, FAR)])
    return [chance.randint(*spread) for tie in web.ties]


def with_lengths(seed, webs, times):
    chance = Random(seed)
    return [(web, chance_lengths(chance, web)) for web in webs for number in range(times)]


def plain_length(lengths, ties):
    return sum(lengths[tie] for tie in ties)


def cheapest_of(trees, lengths):
    least = min((plain_length(lengths, tree) for tree in trees), default=0)
    return [tree for tree in trees if plain_length(lengths, tree) == least]


def wrong_rows(web):
    size = len(web.ties)
    return [[1] * other for other in (0, size - 1, size + 1, size + 2, 2 * size + 1) if other >= 0 and other != size]


SAMPLES = [(web, lengths, plain_trees(web)) for web, lengths in
           with_lengths(102, small_webs()[::3], 1) + with_lengths(103, some_webs() + chance_webs(104, 80, 6, 9), 3)]


class Lengths(unittest.TestCase):
    """[9.1]"""

    def test_length_of_sets(self):
        chance = Random(105)
        for web, lengths, trees in SAMPLES:
            before = (web_state(web), list(lengths))
            for ties in chance.sample(all_sets(web), min(10, 2 ** len(web.ties))):
                for handed in (ties, list(ties)):
                    told = length_of(web, lengths, handed)
                    self.assertEqual(told, plain_length(lengths, ties))
                    self.assertIs(type(told), int)
                    self.assertEqual(length_of(web, tuple(lengths), handed), told)
            self.assertEqual((web_state(web), lengths), before)
        self.assertEqual(length_of(WEB, LENGTHS, ()), 0)
        self.assertEqual(length_of(WEB, LENGTHS, range(6)), 14)

    def test_refusals_in_their_order(self):
        for ties in NO_SETS:
            for handed in (list(ties), tuple(ties)):
                with self.assertRaises(BadSet):
                    length_of(WEB, LENGTHS, handed)
                for row in wrong_rows(WEB):
                    with self.assertRaises(BadRow):
                        length_of(WEB, row, handed)
        for row in wrong_rows(WEB):
            with self.assertRaises(BadRow):
                length_of(WEB, row, ())


class CheapestTrees(unittest.TestCase):
    """[9.1], [9.2]"""

    def test_told_by_hand(self):
        self.assertEqual(cheapest_tree(WEB, LENGTHS), (0, 1, 5))
        self.assertEqual([cheapest_at(WEB, LENGTHS, number) for number in range(2)], [(0, 1, 5), (1, 4, 5)])
        self.assertEqual(cheapest_count(WEB, LENGTHS), 2)
        self.assertEqual(cheapest_number(WEB, LENGTHS, [1, 4, 5]), 1)
        self.assertEqual(gains_of(WEB, LENGTHS, (2, 4, 5)), [(2, 1)])
        self.assertEqual(gains_of(WEB, LENGTHS, (0, 4, 5)), [(0, 1), (0, 2), (4, 1), (4, 2)])
        self.assertEqual([is_cheapest(WEB, LENGTHS, tree) for tree in TREES], [True, False, False, True, False])

    def test_against_all_trees(self):
        for web, lengths, trees in SAMPLES:
            before = (web_state(web), list(lengths))
            cheapest = cheapest_of(trees, lengths)
            for row in (lengths, tuple(lengths)):
                self.assertEqual(cheapest_count(web, row), len(cheapest), before)
                self.assertEqual([cheapest_at(web, row, number) for number in range(len(cheapest))], cheapest, before)
                if cheapest:
                    self.assertEqual(cheapest_tree(web, row), cheapest[0])
            for number in (-1, len(cheapest), len(cheapest) + 1, FAR, -FAR):
                with self.assertRaises(NoSuch):
                    cheapest_at(web, lengths, number)
            self.assertEqual((web_state(web), lengths), before)

    def test_each_tree(self):
        for web, lengths, trees in SAMPLES:
            before = (web_state(web), list(lengths))
            cheapest = cheapest_of(trees, lengths)
            for tree in trees:
                for handed in (tree, list(tree)):
                    self.assertIs(is_cheapest(web, lengths, handed), tree in cheapest)
                    told = gains_of(web, lengths, handed)
                    self.assertEqual(told, [(out, into) for out, into in plain_exchanges(web, tree)
                                            if lengths[into] < lengths[out]])
                    self.assertIs(type(told), list)
                    self.assertEqual(handed, type(handed)(tree))
                    if tree in cheapest:
                        self.assertEqual(cheapest_number(web, lengths, handed), cheapest.index(tree))
                    else:
                        with self.assertRaises(NoTree):
                            cheapest_number(web, lengths, handed)
            self.assertEqual((web_state(web), lengths), before)

    def test_kinds(self):
        for told in (cheapest_tree(WEB, LENGTHS), cheapest_at(WEB, LENGTHS, 1)):
            self.assertIs(type(told), tuple)
        for told in (cheapest_count(WEB, LENGTHS), cheapest_number(WEB, LENGTHS, [0, 1, 5])):
            self.assertIs(type(told), int)

    def test_webs_of_one_tree(self):
        for web, lengths, tree in ((Web(1, []), [], ()), (Web(1, [(0, 0)]), [-5], ()),
                                   (Web(2, [(0, 0), (1, 0)]), [-9, FAR], (1,))):
            self.assertEqual(cheapest_tree(web, lengths), tree)
            self.assertEqual((cheapest_count(web, lengths), cheapest_at(web, lengths, 0)), (1, tree))
            self.assertEqual((cheapest_number(web, lengths, tree), gains_of(web, lengths, tree)), (0, []))
            self.assertIs(is_cheapest(web, lengths, tree), True)

    def test_webs_without_a_tree(self):
        for web in PARTED:
            lengths = [4] * len(web.ties)
            self.assertEqual(cheapest_count(web, lengths), 0)
            with self.assertRaises(Parted):
                cheapest_tree(web, lengths)
            with self.assertRaises(NoSuch):
                cheapest_at(web, lengths, 0)
            for tree in ([], [0], [0, 1]):
                for asked in (gains_of, is_cheapest, cheapest_number):
                    with self.assertRaises(NoTree):
                        asked(web, lengths, tree)

    def test_no_tree(self):
        for tree in NO_TREES:
            for handed in (list(tree), tuple(tree)):
                for asked in (gains_of, is_cheapest, cheapest_number):
                    with self.assertRaises(NoTree):
                        asked(WEB, LENGTHS, handed)

    def test_a_bad_row_goes_ahead(self):
        for web in [WEB, Web(1, []), fullest_web()] + PARTED:
            for row in wrong_rows(web):
                for asked in (cheapest_tree, cheapest_count):
                    with self.assertRaises(BadRow):
                        asked(web, row)
                for tree in NO_TREES + TREES:
                    for asked in (gains_of, is_cheapest, cheapest_number):
                        with self.assertRaises(BadRow):
                            asked(web, row, tree)
                for number in (-1, 0, FAR):
                    with self.assertRaises(BadRow):
                        cheapest_at(web, row, number)

    def test_the_list_is_the_askers_own(self):
        told = gains_of(WEB, LENGTHS, (2, 4, 5))
        told.clear()
        self.assertEqual(gains_of(WEB, LENGTHS, (2, 4, 5)), [(2, 1)])


class GreatWebs(unittest.TestCase):
    """[9.1], [9.2] where not all trees can be gone through"""

    def setUp(self):
        self.begun = perf_counter()

    def tearDown(self):
        self.assertLess(perf_counter() - self.begun, 60)

    def test_all_alike(self):
        chance = Random(106)
        for web in GREAT:
            size = tree_count(web)
            for length in (0, -7, FAR):
                lengths = [length] * len(web.ties)
                self.assertEqual(cheapest_count(web, lengths), size)
                number = chance.randrange(size)
                tree = tree_at(web, number)
                self.assertEqual(cheapest_at(web, lengths, number), tree)
                self.assertEqual(cheapest_number(web, lengths, tree), number)
                self.assertIs(is_cheapest(web, lengths, tree), True)

    def test_no_two_alike(self):
        for web in GREAT:
            lengths = [(7 * tie) % 31 - 15 for tie in range(len(web.ties))]
            tree = cheapest_tree(web, lengths)
            self.assertTrue(is_plain_tree(web, tree))
            self.assertEqual((cheapest_count(web, lengths), cheapest_number(web, lengths, tree)), (1, 0))
            self.assertEqual([pair for pair in plain_exchanges(web, tree) if lengths[pair[1]] <= lengths[pair[0]]], [])

    def test_numbers_there_and_back(self):
        chance = Random(107)
        for web, spread in product(GREAT, ((0, 1), (-2, 2), (FAR - 3, FAR))):
            lengths = [chance.randint(*spread) for tie in web.ties]
            size = cheapest_count(web, lengths)
            numbers = sorted({0, size - 1, size // 2, chance.randrange(size)})
            trees = [cheapest_at(web, lengths, number) for number in numbers]
            self.assertEqual(trees, sorted(trees))
            self.assertEqual(trees[0], cheapest_tree(web, lengths))
            for number, tree in zip(numbers, trees):
                self.assertTrue(is_plain_tree(web, tree))
                self.assertEqual(length_of(web, lengths, tree), plain_length(lengths, trees[0]))
                self.assertEqual(cheapest_number(web, lengths, tree), number)
                self.assertIs(is_cheapest(web, lengths, tree), True)
                self.assertEqual(gains_of(web, lengths, tree), [])


if __name__ == "__main__":
    unittest.main()
