import unittest
from random import Random
from time import perf_counter

from sampling import FAR, WEB, fullest_web, great_webs, is_plain_tree, plain_trees, web_state, wheel_web
from spanrow.cheapest import cheapest_count, cheapest_tree
from spanrow.errors import BadRow
from spanrow.plain import trees_from
from spanrow.ranking import ranked
from spanrow.webs import Web
from test_cheapest import LENGTHS, PARTED, SAMPLES, plain_length, wrong_rows

GREAT = great_webs(111, 4) + [fullest_web(), wheel_web()]


def plain_ranked(web, lengths):
    return sorted((plain_length(lengths, tree), tree) for tree in plain_trees(web))


class Ranked(unittest.TestCase):
    """[9.3]"""

    def test_told_by_hand(self):
        self.assertEqual(ranked(WEB, LENGTHS, 60), [
            (9, (0, 1, 5)), (9, (1, 4, 5)), (12, (0, 2, 5)), (12, (2, 4, 5)), (13, (0, 4, 5))])

    def test_against_all_trees(self):
        for web, lengths, trees in SAMPLES:
            before = (web_state(web), list(lengths))
            asked = sorted((plain_length(lengths, tree), tree) for tree in trees)
            for most in (0, 1, 2, len(trees), len(trees) + 1, 60):
                told = ranked(web, lengths, most)
                self.assertEqual(told, asked[:most], (before, most))
            self.assertIs(type(told), list)
            self.assertTrue(all(type(pair) is tuple and type(pair[1]) is tuple for pair in told))
            self.assertEqual(ranked(web, tuple(lengths), 60), told)
            self.assertEqual((web_state(web), lengths), before)

    def test_trees_of_one_length_ascend(self):
        for web in GREAT:
            told = ranked(web, [-3] * len(web.ties), 60)
            self.assertEqual(told, [(-39, tree) for tree in trees_from(web, 0, 60)])

    def test_webs_of_one_tree_and_of_none(self):
        self.assertEqual(ranked(Web(1, []), [], 60), [(0, ())])
        self.assertEqual(ranked(Web(1, [(0, 0)]), [-5], 60), [(0, ())])
        self.assertEqual(ranked(Web(1, [(0, 0)]), [-5], 0), [])
        self.assertEqual(ranked(Web(2, [(0, 0), (1, 0)]), [-9, FAR], 1), [(FAR, (1,))])
        for web in PARTED:
            for most in (0, 1, 60):
                self.assertEqual(ranked(web, [4] * len(web.ties), most), [])

    def test_a_bad_row(self):
        for web in [WEB, Web(1, []), fullest_web()] + PARTED:
            for row in wrong_rows(web):
                for most in (0, 1, 60):
                    with self.assertRaises(BadRow):
                        ranked(web, row, most)

    def test_the_list_is_the_askers_own(self):
        told = ranked(WEB, LENGTHS, 2)
        told.clear()
        self.assertEqual(ranked(WEB, LENGTHS, 1), [(9, (0, 1, 5))])

    def test_great_webs_in_good_time(self):
        chance = Random(112)
        begun = perf_counter()
        for web in GREAT:
            for spread in ((0, 1), (-4, 4), (-FAR, FAR)):
                lengths = [chance.randint(*spread) for tie in web.ties]
                told = ranked(web, lengths, 60)
                self.assertEqual(len(told), 60)
                self.assertEqual(told, sorted(set(told)))
                self.assertEqual(told[0][1], cheapest_tree(web, lengths))
                cheap = [pair for pair in told if pair[0] == told[0][0]]
                self.assertEqual(len(cheap), min(60, cheapest_count(web, lengths)))
                for length, tree in told:
                    self.assertTrue(is_plain_tree(web, tree))
                    self.assertEqual(length, plain_length(lengths, tree))
        self.assertLess(perf_counter() - begun, 60)

    def test_a_web_of_some_thousand_trees(self):
        web = Web(7, [(0, 1), (1, 2), (2, 3), (3, 4), (4, 5), (5, 6), (6, 0), (0, 3), (1, 5), (2, 6), (2, 4), (0, 1)])
        for lengths in ([0, 1] * 6, [tie * tie % 7 - 3 for tie in range(12)], list(range(12))):
            self.assertEqual(ranked(web, lengths, 60), plain_ranked(web, lengths)[:60])


if __name__ == "__main__":
    unittest.main()
