import unittest
from random import Random
from time import perf_counter

from sampling import (
    FAR, NO_SETS, NO_TREES, WEB, all_sets, chance_webs, fullest_web, great_webs, is_plain_tree, plain_trees,
    small_webs, some_webs, trees_with, web_state, wheel_web,
)
from spanrow.counts import count_with, tree_count
from spanrow.errors import BadSet, NoSuch, NoTree
from spanrow.plain import greatest_with, least_with, next_tree, number_of, tree_ahead, tree_at, trees_from
from spanrow.webs import Web

WEBS = small_webs() + some_webs() + chance_webs(61, 80, 6, 9)
GREAT = great_webs(62, 6) + [fullest_web(), wheel_web()]


class Numbers(unittest.TestCase):
    """[5.1]"""

    def test_told_by_hand(self):
        trees = [(0, 1, 5), (0, 2, 5), (0, 4, 5), (1, 4, 5), (2, 4, 5)]
        self.assertEqual([tree_at(WEB, number) for number in range(5)], trees)
        self.assertEqual([number_of(WEB, tree) for tree in trees], list(range(5)))
        self.assertEqual([next_tree(WEB, tree) for tree in trees], trees[1:] + [None])
        self.assertEqual([tree_ahead(WEB, tree) for tree in trees], [None] + trees[:-1])

    def test_against_all_trees(self):
        for web in WEBS:
            before = web_state(web)
            trees = plain_trees(web)
            for number, tree in enumerate(trees):
                self.assertEqual(tree_at(web, number), tree)
                self.assertIs(type(tree_at(web, number)), tuple)
                for handed in (tree, list(tree)):
                    self.assertEqual(number_of(web, handed), number)
                    self.assertEqual(next_tree(web, handed), trees[number + 1] if number + 1 < len(trees) else None)
                    self.assertEqual(tree_ahead(web, handed), trees[number - 1] if number > 0 else None)
                    self.assertEqual(handed, type(handed)(tree))
            self.assertEqual(web_state(web), before)

    def test_kinds(self):
        self.assertIs(type(next_tree(WEB, [0, 1, 5])), tuple)
        self.assertIs(type(tree_ahead(WEB, [2, 4, 5])), tuple)
        self.assertIs(type(number_of(WEB, [0, 1, 5])), int)

    def test_no_such(self):
        for web in WEBS + GREAT:
            size = tree_count(web)
            for number in (-1, -size, -size - 1, size, size + 1, FAR, -FAR):
                if not 0 <= number < size:
                    with self.assertRaises(NoSuch):
                        tree_at(web, number)

    def test_no_tree(self):
        for tree in NO_TREES:
            for handed in (list(tree), tuple(tree)):
                for asked in (number_of, next_tree, tree_ahead):
                    with self.assertRaises(NoTree, msg=repr(tree)):
                        asked(WEB, handed)

    def test_a_web_without_a_tree(self):
        for web in (Web(2, []), Web(3, [(0, 1), (1, 0)]), Web(14, [(0, 0)] * 30)):
            for tree in ([], [0], [0, 1]):
                for asked in (number_of, next_tree, tree_ahead):
                    with self.assertRaises(NoTree):
                        asked(web, tree)
            with self.assertRaises(NoSuch):
                tree_at(web, 0)
            self.assertEqual(trees_from(web, 0, 5), [])

    def test_a_web_with_one_tree(self):
        for web, tree in ((Web(1, []), ()), (Web(1, [(0, 0)]), ()), (Web(2, [(0, 0), (1, 0)]), (1,)),
                          (Web(14, [(place, 13) for place in range(14)]), tuple(range(13)))):
            self.assertEqual(tree_at(web, 0), tree)
            self.assertEqual(number_of(web, tree), 0)
            self.assertIsNone(next_tree(web, tree))
            self.assertIsNone(tree_ahead(web, tree))
            self.assertEqual(trees_from(web, 0, 300), [tree])
            self.assertEqual(trees_from(web, 1, 300), [])

    def test_great_webs_there_and_back_in_good_time(self):
        chance = Random(63)
        begun = perf_counter()
        for web in GREAT:
            size = tree_count(web)
            numbers = [0, 1, size - 2, size - 1] + [chance.randrange(size) for step in range(20)]
            trees = [tree_at(web, number) for number in numbers]
            for number, tree in zip(numbers, trees):
                self.assertTrue(is_plain_tree(web, tree))
                self.assertEqual(number_of(web, tree), number)
                if number + 1 < size:
                    behind = next_tree(web, tree)
                    self.assertEqual(number_of(web, behind), number + 1)
                    self.assertEqual(tree_ahead(web, behind), tree)
            self.assertEqual([tree for number, tree in sorted(zip(numbers, trees))], sorted(trees))
            self.assertIsNone(next_tree(web, trees[3]))
            self.assertIsNone(tree_ahead(web, trees[0]))
        self.assertLess(perf_counter() - begun, 60)


class Runs(unittest.TestCase):
    """[5.1]: trees_from"""

    def test_against_all_trees(self):
        for web in WEBS:
            before = web_state(web)
            trees = plain_trees(web)
            for number in list(range(min(4, len(trees)))) + [len(trees) // 2, len(trees) - 1, len(trees), FAR]:
                for most in (0, 1, 2, 5, 300):
                    if number >= 0:
                        told = trees_from(web, number, most)
                        self.assertEqual(told, trees[number:number + most])
                        self.assertIs(type(told), list)
            self.assertEqual(web_state(web), before)

    def test_below_nought(self):
        for web in (WEB, Web(1, []), Web(2, [])):
            for number in (-1, -2, -5, -FAR):
                for most in (0, 1, 300):
                    with self.assertRaises(NoSuch):
                        trees_from(web, number, most)

    def test_the_list_is_the_askers_own(self):
        told = trees_from(WEB, 0, 2)
        told.append(None)
        self.assertEqual(trees_from(WEB, 0, 2), [(0, 1, 5), (0, 2, 5)])

    def test_great_webs_in_good_time(self):
        begun = perf_counter()
        for web in GREAT:
            size = tree_count(web)
            for number in (0, size // 3, size - 150):
                told = trees_from(web, number, 300)
                self.assertEqual(len(told), min(300, size - number))
                self.assertEqual(told, sorted(set(told)))
                self.assertEqual(number_of(web, told[-1]), number + len(told) - 1)
                self.assertEqual(number_of(web, told[0]), number)
        self.assertLess(perf_counter() - begun, 60)


class LeastAndGreatest(unittest.TestCase):
    """[5.1] with [3.3]"""

    def look_at(self, web, inside, outside, trees):
        for one, other in ((inside, outside), (list(inside), list(outside))):
            least, greatest = least_with(web, one, other), greatest_with(web, one, other)
            self.assertEqual(least, trees[0] if trees else None, (web_state(web), one, other))
            self.assertEqual(greatest, trees[-1] if trees else None, (web_state(web), one, other))
            self.assertTrue(not trees or type(least) is tuple and type(greatest) is tuple)

    def test_against_all_trees(self):
        chance = Random(64)
        for web in WEBS:
            trees = plain_trees(web)
            sets = all_sets(web)
            for number in range(10):
                inside, outside = chance.choice(sets), chance.choice(sets)
                self.look_at(web, inside, outside, [tree for tree in trees if set(inside) <= set(tree)
                                                    and not set(outside) & set(tree)])

    def test_all_pairs_of_sets_of_one_web(self):
        before = web_state(WEB)
        for inside in all_sets(WEB):
            for outside in all_sets(WEB):
                self.look_at(WEB, inside, outside, trees_with(WEB, inside, outside))
        self.assertEqual(web_state(WEB), before)

    def test_a_common_tie(self):
        for asked in (least_with, greatest_with):
            self.assertIsNone(asked(WEB, (5,), (5,)))
            self.assertIsNone(asked(WEB, (0, 1, 5), (1,)))
            self.assertIsNotNone(asked(WEB, (0, 1, 5), (2,)))

    def test_no_sets(self):
        for ties in NO_SETS:
            for fine in ([], [0], [0, 1, 2]):
                for asked in (least_with, greatest_with):
                    with self.assertRaises(BadSet):
                        asked(WEB, list(ties), fine)
                    with self.assertRaises(BadSet):
                        asked(WEB, fine, tuple(ties))
                    with self.assertRaises(BadSet):
                        asked(WEB, list(ties), list(ties))

    def test_great_webs(self):
        chance = Random(65)
        for web in GREAT:
            for step in range(30):
                mixed = chance.sample(range(len(web.ties)), 8)
                inside, outside = sorted(mixed[:3]), sorted(mixed[3:])
                least, greatest = least_with(web, inside, outside), greatest_with(web, inside, outside)
                if count_with(web, inside, outside) == 0:
                    self.assertEqual((least, greatest), (None, None))
                    continue
                for tree in (least, greatest):
                    self.assertTrue(is_plain_tree(web, tree))
                    self.assertTrue(set(inside) <= set(tree) and not set(outside) & set(tree))
                self.look_beyond(web, inside, outside, least, greatest)
                self.assertEqual((inside, outside), (sorted(mixed[:3]), sorted(mixed[3:])))

    def look_beyond(self, web, inside, outside, least, greatest):
        """No tree parts from these two, at any tie, to the wrong side."""
        for tie in range(len(web.ties)):
            for tree, side in ((least, tie not in least), (greatest, tie in greatest)):
                if side and tie not in inside:
                    having = {own for own in tree if own < tie} | set(inside)
                    going = {own for own in range(tie) if own not in tree} | set(outside)
                    having, going = (having | {tie}, going) if tree is least else (having, going | {tie})
                    self.assertEqual(count_with(web, sorted(having), sorted(going)), 0)


if __name__ == "__main__":
    unittest.main()
