import unittest
from random import Random

from sampling import (
    FAR, all_sets, chance_webs, fullest_web, great_webs, plain_trees, small_webs, some_webs, trees_with, web_state,
    wheel_web,
)
from spanrow.counts import count_with, pull_table, tree_count
from spanrow.errors import BadSet
from spanrow.webs import Web

LOOPED = Web(3, [(0, 1), (1, 1), (2, 0), (1, 0)])
NO_SETS = ([0, 0], [1, 0], [0, 2, 1], [4], [0, 4], [-1], [-1, 0], [FAR], [-FAR], [0, 1, 2, 3, 4])


def plain_table(web):
    """The words of [3.2], place by place."""
    table = []
    for one in range(web.places):
        row = []
        for other in range(web.places):
            if one == other:
                row.append(sum(1 for ends in web.ties if one in ends and ends[0] != ends[1]))
            else:
                row.append(-sum(1 for ends in web.ties if set(ends) == {one, other}))
        table.append(row)
    return table


class PullTables(unittest.TestCase):
    """[3.2]"""

    def test_told_by_hand(self):
        self.assertEqual(pull_table(Web(1, [])), [[0]])
        self.assertEqual(pull_table(Web(1, [(0, 0)])), [[0]])
        self.assertEqual(pull_table(Web(2, [(0, 1), (1, 0), (1, 1)])), [[2, -2], [-2, 2]])
        self.assertEqual(pull_table(LOOPED), [[3, -2, -1], [-2, 2, 0], [-1, 0, 1]])

    def test_against_the_words(self):
        for web in small_webs() + some_webs() + chance_webs(41, 100, 14, 30) + [fullest_web(), wheel_web()]:
            self.assertEqual(pull_table(web), plain_table(web))

    def test_the_lists_are_the_askers_own(self):
        web = Web(3, [(0, 1)])
        before = web_state(web)
        told = pull_table(web)
        self.assertTrue(type(told) is list and all(type(row) is list for row in told))
        told[2][2] = 9
        self.assertEqual(told, [[1, -1, 0], [-1, 1, 0], [0, 0, 9]])
        told.pop()
        self.assertEqual(pull_table(web), [[1, -1, 0], [-1, 1, 0], [0, 0, 0]])
        self.assertEqual(web_state(web), before)


class TreeCounts(unittest.TestCase):
    """[3.2]"""

    def test_against_all_trees(self):
        for web in small_webs() + some_webs() + chance_webs(42, 150, 6, 10):
            before = web_state(web)
            told = tree_count(web)
            self.assertEqual(told, len(plain_trees(web)))
            self.assertIs(type(told), int)
            self.assertEqual(web_state(web), before)

    def test_one_place(self):
        self.assertEqual(tree_count(Web(1, [])), 1)
        self.assertEqual(tree_count(Web(1, [(0, 0)] * 30)), 1)

    def test_not_joined(self):
        self.assertEqual(tree_count(Web(2, [])), 0)
        self.assertEqual(tree_count(Web(2, [(0, 0), (1, 1)])), 0)
        self.assertEqual(tree_count(Web(14, [])), 0)
        self.assertEqual(tree_count(Web(14, [(place, place + 1) for place in range(12)] * 2)), 0)
        self.assertEqual(tree_count(Web(5, [(0, 1), (1, 2), (2, 0), (3, 4), (4, 3)])), 0)

    def test_webs_whose_trees_are_known(self):
        for places in range(2, 9):
            whole = [(one, other) for one in range(places) for other in range(one)]
            self.assertEqual(tree_count(Web(places, whole)), places ** (places - 2))
            ring = [(place, (place + 1) % places) for place in range(places)]
            self.assertEqual(tree_count(Web(places, ring)), places)
        self.assertEqual(tree_count(wheel_web()), 271441)
        self.assertEqual(tree_count(Web(2, [(0, 1)] * 30)), 30)
        self.assertEqual(tree_count(Web(14, [(place, place + 1) for place in range(13)] * 2)), 2 ** 13)
        self.assertEqual(tree_count(Web(11, [(place, place + 1) for place in range(10)] * 3)), 3 ** 10)

    def test_the_most_places_and_ties(self):
        # Each tree leaves out or has a tie: the two counts are those of lesser webs.
        for web in great_webs(43, 10) + [fullest_web()]:
            for tie in range(30):
                self.assertEqual(count_with(web, (tie,), ()) + count_with(web, (), (tie,)), tree_count(web))
            # Each tree has 13 ties.
            self.assertEqual(sum(count_with(web, (tie,), ()) for tie in range(30)), 13 * tree_count(web))


class CountsWith(unittest.TestCase):
    """[3.3]"""

    def test_against_all_trees(self):
        chance = Random(44)
        for web in small_webs() + some_webs() + chance_webs(45, 60, 5, 8):
            trees = plain_trees(web)
            sets = all_sets(web)
            for number in range(12):
                inside, outside = chance.choice(sets), chance.choice(sets)
                asked = sum(1 for tree in trees if set(inside) <= set(tree) and not set(outside) & set(tree))
                told = count_with(web, inside, outside)
                self.assertEqual(told, asked, (web_state(web), inside, outside))
                self.assertIs(type(told), int)
                self.assertEqual(count_with(web, list(inside), list(outside)), asked)

    def test_all_pairs_of_sets_of_one_web(self):
        web = Web(4, [(0, 1), (2, 1), (1, 2), (3, 3), (2, 0), (3, 0)])
        for inside in all_sets(web):
            for outside in all_sets(web):
                self.assertEqual(count_with(web, inside, outside), len(trees_with(web, inside, outside)))

    def test_a_common_tie(self):
        self.assertEqual(count_with(LOOPED, (0, 2), ()), 1)
        for inside, outside in (((0,), (0,)), ((0, 2), (2, 3)), ((0, 2), (0,)), ((2,), (0, 2)), ((1,), (1,))):
            self.assertEqual(count_with(LOOPED, inside, outside), 0)

    def test_no_sets(self):
        for ties in NO_SETS:
            for fine in ([], [0], [0, 1, 2, 3]):
                for refused, other in ((list(ties), fine), (tuple(ties), tuple(fine))):
                    with self.assertRaises(BadSet, msg=repr(ties)):
                        count_with(LOOPED, refused, other)
                    with self.assertRaises(BadSet, msg=repr(ties)):
                        count_with(LOOPED, other, refused)
            with self.assertRaises(BadSet):
                count_with(LOOPED, list(ties), list(ties))

    def test_no_sets_of_a_web_without_trees(self):
        with self.assertRaises(BadSet):
            count_with(Web(2, []), [0], [])
        with self.assertRaises(BadSet):
            count_with(Web(2, []), [], [0])

    def test_what_is_handed_in_stays(self):
        before = web_state(LOOPED)
        inside, outside = [0], [1, 2]
        count_with(LOOPED, inside, outside)
        self.assertEqual((inside, outside, web_state(LOOPED)), ([0], [1, 2], before))


if __name__ == "__main__":
    unittest.main()
