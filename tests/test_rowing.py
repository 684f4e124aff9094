import unittest
from random import Random
from time import perf_counter

from sampling import (
    FAR, NO_TREES, WEB, chance_webs, fullest_web, great_webs, is_plain_tree, plain_trees, reached, small_webs,
    some_webs, web_state, wheel_web,
)
from spanrow.counts import tree_count
from spanrow.errors import NoSuch, NoTree, Parted
from spanrow.rowing import row_ahead, row_at, row_from, row_last, row_next, row_number, row_step
from spanrow.trees import exchanged, exchanges_of, least_tree, ring_of
from spanrow.webs import Web

GREAT = great_webs(71, 6) + [fullest_web(), wheel_web()]


def pieces_at_ends(web, kept, tie):
    return sorted(reached(web, kept, end) for end in web.ties[tie])


def plain_open(web, trees, kept, shut):
    least = min(trees)
    ends = {tie: pieces_at_ends(web, kept, tie) for tie in range(len(web.ties))}
    return [tie for tie in range(len(web.ties))
            if tie not in kept and tie not in shut and tie not in least and ends[tie][0] != ends[tie][1]]


def plain_part_row(web, trees, kept, shut, lead):
    """The very words of [6.3]; trees are all trees of the part."""
    least = min(trees)
    twins = [tie for tie in plain_open(web, trees, kept, shut)
             if tie != lead and pieces_at_ends(web, kept, tie) == pieces_at_ends(web, kept, lead)]
    others = [tie for tie in plain_open(web, trees, kept, shut) if tie != lead and tie not in twins]
    if others:
        following = min(others)
        first = plain_part_row(web, [tree for tree in trees if lead not in tree], kept, shut + [lead], following)
        second = plain_part_row(web, [tree for tree in trees if lead in tree], kept + [lead], shut, following)
        return first + second[::-1]
    row = [least]
    incoming = sorted(twins) + [lead]
    for steps_ahead, into in zip(range(len(incoming) - 1, -1, -1), incoming):
        outs = [out for out in least if out not in kept
                and is_plain_tree(web, [tie for tie in least if tie != out] + [into])]
        for out in sorted(outs, reverse=steps_ahead % 2 == 1):
            row.append(tuple(sorted(set(least) - {out} | {into})))
    return row


def plain_row(web):
    """[6.4]"""
    trees = plain_trees(web)
    if len(trees) < 2:
        return trees
    return plain_part_row(web, trees, [], [], min(plain_open(web, trees, [], [])))


def bundles():
    """Webs of many twins, where the turns of [6.3] show."""
    return [
        Web(2, [(0, 1)] * 6),
        Web(3, [(0, 1), (1, 2), (1, 0), (2, 1), (0, 1), (0, 2), (2, 2), (2, 0)]),
        Web(3, [(0, 2)] * 3 + [(1, 2)] * 3 + [(1, 0)] * 3),
        Web(4, [(0, 1), (1, 2), (2, 3), (3, 0), (0, 3), (3, 0), (3, 0)]),
        Web(4, [(3, 0), (0, 3), (3, 2), (1, 2), (2, 1), (0, 1), (1, 0), (2, 0)]),
        Web(5, [(0, 1), (1, 2), (2, 3), (3, 4), (4, 0), (0, 4), (0, 4), (1, 3)]),
    ]


ROWS = [(web, plain_row(web)) for web in small_webs() + some_webs() + bundles() + chance_webs(72, 120, 6, 9)]


class Rows(unittest.TestCase):
    """[6.1] to [6.5]"""

    def test_told_by_hand(self):
        ring = Web(3, [(0, 1), (1, 2), (2, 0)])
        self.assertEqual(row_from(ring, 0, 9), [(0, 1), (1, 2), (0, 2)])
        twins = Web(2, [(0, 1)] * 4)
        self.assertEqual(row_from(twins, 0, 9), [(0,), (2,), (3,), (1,)])
        # The whole is led by 2, both its halves by 4.
        self.assertEqual(row_from(WEB, 0, 9), [(0, 1, 5), (1, 4, 5), (0, 4, 5), (2, 4, 5), (0, 2, 5)])

    def test_the_whole_row_against_the_words(self):
        for web, row in ROWS:
            before = web_state(web)
            told = row_from(web, 0, 300)
            self.assertEqual(told, row[:300], before)
            self.assertIs(type(told), list)
            self.assertTrue(all(type(tree) is tuple for tree in told))
            self.assertEqual(web_state(web), before)

    def test_each_tree_once(self):
        for web, row in ROWS:
            told = row_from(web, 0, len(row))
            self.assertEqual(sorted(told), plain_trees(web))

    def test_each_by_one_exchange(self):
        for web, row in ROWS:
            told = row_from(web, 0, len(row))
            for one, other in zip(told, told[1:]):
                self.assertEqual(len(set(one) - set(other)), 1)

    def test_first_and_last(self):
        for web, row in ROWS:
            if len(row) > 1:
                least = least_tree(web)
                self.assertEqual(row_at(web, 0), least)
                # The least open tie of the whole web is the least tie besides the tree that is no loop.
                into = min(tie for tie, ends in enumerate(web.ties) if tie not in least and ends[0] != ends[1])
                out = max(tie for tie in ring_of(web, least, into) if tie in least)
                self.assertEqual(row_last(web), exchanged(web, least, out, into))
                self.assertEqual(row_last(web), row[-1])

    def test_parts_of_the_row(self):
        for web, row in ROWS:
            for number in sorted({0, 1, len(row) // 3, len(row) // 2, max(0, len(row) - 2), len(row), len(row) + 1}):
                for most in (0, 1, 2, 7, 300):
                    self.assertEqual(row_from(web, number, most), row[number:number + most])

    def test_all_functions_against_the_row(self):
        for web, row in ROWS:
            before = web_state(web)
            for number, tree in enumerate(row):
                self.assertEqual(row_at(web, number), tree)
                for handed in (tree, list(tree)):
                    self.look_at(web, row, number, handed)
                    self.assertEqual(handed, type(handed)(tree))
            self.assertEqual(web_state(web), before)

    def look_at(self, web, row, number, tree):
        self.assertEqual(row_number(web, tree), number)
        self.assertEqual(row_ahead(web, tree), row[number - 1] if number > 0 else None)
        if number + 1 == len(row):
            self.assertIsNone(row_next(web, tree))
            self.assertIsNone(row_step(web, tree))
            return
        behind = row[number + 1]
        self.assertEqual(row_next(web, tree), behind)
        (out,), (into,) = set(tree) - set(behind), set(behind) - set(tree)
        self.assertEqual(row_step(web, tree), (out, into))

    def test_kinds(self):
        for told in (row_at(WEB, 2), row_last(WEB), row_next(WEB, [0, 1, 5]), row_ahead(WEB, [1, 4, 5]),
                     row_step(WEB, [0, 1, 5])):
            self.assertIs(type(told), tuple)
        self.assertIs(type(row_number(WEB, [0, 1, 5])), int)

    def test_the_list_is_the_askers_own(self):
        told = row_from(WEB, 0, 2)
        told.append(None)
        self.assertEqual(row_from(WEB, 0, 2), [(0, 1, 5), (1, 4, 5)])

    def test_webs_of_one_tree(self):
        for web, tree in ((Web(1, []), ()), (Web(1, [(0, 0)]), ()), (Web(2, [(0, 0), (1, 0)]), (1,)),
                          (Web(14, [(place, 13) for place in range(14)]), tuple(range(13)))):
            self.assertEqual(row_from(web, 0, 300), [tree])
            self.assertEqual(row_from(web, 1, 300), [])
            self.assertEqual((row_at(web, 0), row_last(web), row_number(web, tree)), (tree, tree, 0))
            self.assertEqual((row_next(web, tree), row_ahead(web, tree), row_step(web, tree)), (None, None, None))
            with self.assertRaises(NoSuch):
                row_at(web, 1)

    def test_webs_that_are_not_joined(self):
        for web in (Web(2, []), Web(3, [(0, 1), (1, 0)]), Web(14, [(0, 0)] * 30)):
            with self.assertRaises(Parted):
                row_last(web)
            for number in (0, 1, -1, FAR):
                with self.assertRaises(NoSuch):
                    row_at(web, number)
            for tree in ([], [0], [0, 1]):
                for asked in (row_number, row_next, row_ahead, row_step):
                    with self.assertRaises(NoTree):
                        asked(web, tree)
            self.assertEqual(row_from(web, 0, 300), [])

    def test_no_such(self):
        for web in [web for web, row in ROWS[::7]] + GREAT:
            size = tree_count(web)
            for number in (-1, -size - 1, size, size + 1, FAR, -FAR):
                with self.assertRaises(NoSuch):
                    row_at(web, number)
                for most in (0, 1, 300):
                    if number < 0:
                        with self.assertRaises(NoSuch):
                            row_from(web, number, most)
                    else:
                        self.assertEqual(row_from(web, number, most), [])

    def test_no_tree(self):
        for tree in NO_TREES:
            for handed in (list(tree), tuple(tree)):
                for asked in (row_number, row_next, row_ahead, row_step):
                    with self.assertRaises(NoTree, msg=repr(tree)):
                        asked(WEB, handed)


class GreatRows(unittest.TestCase):
    """[6.3] to [6.5] where not all trees can be gone through"""

    def setUp(self):
        self.begun = perf_counter()

    def tearDown(self):
        self.assertLess(perf_counter() - self.begun, 60)

    def test_numbers_there_and_back(self):
        chance = Random(73)
        for web in GREAT:
            size = tree_count(web)
            for number in [0, 1, size // 2, size - 2, size - 1] + [chance.randrange(1, size - 1) for step in range(8)]:
                tree = row_at(web, number)
                self.assertTrue(is_plain_tree(web, tree))
                self.assertEqual(row_number(web, tree), number)
                if 0 < number < size - 1:
                    behind, ahead = row_next(web, tree), row_ahead(web, tree)
                    self.assertEqual((row_number(web, behind), row_number(web, ahead)), (number + 1, number - 1))
                    self.assertIn(row_step(web, tree), exchanges_of(web, tree))
                    self.assertEqual(exchanged(web, tree, *row_step(web, tree)), behind)
                    self.assertEqual(exchanged(web, ahead, *row_step(web, ahead)), tree)

    def test_first_and_last(self):
        for web in GREAT:
            least = least_tree(web)
            into = min(tie for tie, ends in enumerate(web.ties) if tie not in least and ends[0] != ends[1])
            out = max(tie for tie in ring_of(web, least, into) if tie in least)
            last = exchanged(web, least, out, into)
            self.assertEqual((row_at(web, 0), row_last(web)), (least, last))
            self.assertIsNone(row_ahead(web, least))
            self.assertIsNone(row_next(web, last))
            self.assertIsNone(row_step(web, last))

    def test_runs_at_far_numbers(self):
        for web in GREAT:
            size = tree_count(web)
            for number in (0, size // 3, size - 200):
                told = row_from(web, number, 300)
                self.assertEqual(len(told), min(300, size - number))
                self.assertEqual(len(set(told)), len(told))
                for at in (0, 1, 150, len(told) - 1):
                    self.assertEqual(row_at(web, number + at), told[at])
                for one, other in zip(told, told[1:]):
                    self.assertEqual(len(set(one) - set(other)), 1)

    def test_a_whole_row_of_some_thousand_trees(self):
        web = Web(7, [(0, 1), (1, 2), (2, 3), (3, 4), (4, 5), (5, 6), (6, 0), (0, 3), (1, 5), (2, 6), (2, 4), (0, 1)])
        row = [tree for number in range(0, tree_count(web), 300) for tree in row_from(web, number, 300)]
        self.assertEqual(row, plain_row(web))

    def test_rows_of_many_twins(self):
        for web in (Web(2, [(0, 1)] * 30), Web(3, [(0, 1), (1, 2), (0, 2)] * 10),
                    Web(14, [(place, (place + 1) % 14) for place in range(14)] + [(0, 13)] * 16)):
            size = tree_count(web)
            row = row_from(web, 0, 300)
            self.assertEqual((len(row), len(set(row))), (size, size))
            for number in range(0, size, 17):
                self.assertEqual((row_at(web, number), row_number(web, row[number])), (row[number], number))
            for one, other in zip(row, row[1:] + row[:1]):
                self.assertEqual(len(set(one) - set(other)), 1)


if __name__ == "__main__":
    unittest.main()
