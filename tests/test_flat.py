import unittest
from itertools import permutations, product
from random import Random

from sampling import (
    FAR, NO_TREES, TREES, WEB, chance_webs, fullest_web, great_webs, joins_all, plain_trees, small_webs, some_webs,
    web_state, wheel_web,
)
from spanrow.counts import tree_count
from spanrow.errors import BadTurns, BadWeb, NotFlat, NoTree
from spanrow.flat import left_of, lies_flat, other_web, rounds_of
from spanrow.plain import tree_at
from spanrow.trees import is_tree
from spanrow.webs import Web


def start_of(web, dart):
    return web.ties[dart // 2][dart % 2]


def plain_darts(web, place):
    return [dart for dart in range(2 * len(web.ties)) if start_of(web, dart) == place]


def plain_turns(web):
    return [plain_darts(web, place) for place in range(web.places)]


def chance_turns(chance, web):
    return [chance.sample(darts, len(darts)) for darts in plain_turns(web)]


def all_turns(web):
    return [[list(turn) for turn in turns] for turns in product(*(permutations(darts) for darts in plain_turns(web)))]


def plain_behind(web, turns, dart):
    """The words of [11.2]."""
    back = dart ^ 1
    turn = turns[start_of(web, back)]
    return (list(turn) * 2)[list(turn).index(back) + 1]


def plain_rounds(web, turns):
    if not web.ties:
        return [[]]
    rounds = []
    for dart in range(2 * len(web.ties)):
        found = [dart]
        while plain_behind(web, turns, found[-1]) != dart:
            found.append(plain_behind(web, turns, found[-1]))
        if min(found) == dart:
            rounds.append(found)
    return rounds


def is_plain_flat(web, turns):
    return (joins_all(web, range(len(web.ties)))
            and web.places - len(web.ties) + len(plain_rounds(web, turns)) == 2)


def bundle(ties):
    """Two places with ties between them, lying flat side by side."""
    return Web(2, [(0, 1)] * ties), [[2 * tie for tie in range(ties)], [2 * tie + 1 for tie in reversed(range(ties))]]


def flower(ties):
    """One place with loops, lying flat beside each other."""
    return Web(1, [(0, 0)] * ties), [list(range(2 * ties))]


def some_turns():
    """Webs with turns of theirs: all of little ones, some of greater ones."""
    chance = Random(131)
    pairs = [(web, turns) for web in (Web(2, [(0, 1), (1, 0), (0, 1)]), Web(2, [(0, 1), (0, 0), (1, 0)]),
                                      Web(1, [(0, 0), (0, 0)]), Web(3, [(0, 1), (1, 2), (2, 0), (0, 1)]))
             for turns in all_turns(web)]
    for web in small_webs()[::5] + some_webs() + chance_webs(132, 60, 6, 9) + [fullest_web()] + great_webs(133, 3):
        pairs.extend((web, chance_turns(chance, web)) for number in range(3))
    # Little webs lie flat by some of all their turns.
    for web in chance_webs(134, 40, 4, 4):
        turns = all_turns(web)
        pairs.extend((web, turns) for turns in chance.sample(turns, min(15, len(turns))))
    return pairs


def wheel_turns():
    """The wheel of sampling, drawn with the hub in the middle."""
    turns = [[2 * (13 + place) for place in range(13)]]
    for place in range(13):
        turns.append([2 * (13 + place) + 1, 2 * ((place - 1) % 13) + 1, 2 * place])
    return turns


PAIRS = some_turns()


class Rounds(unittest.TestCase):
    """[11.1], [11.2]"""

    def test_told_by_hand(self):
        ring = Web(3, [(0, 1), (1, 2), (2, 0)])
        self.assertEqual(rounds_of(ring, [[0, 5], [2, 1], [4, 3]]), [[0, 2, 4], [1, 5, 3]])
        self.assertEqual(rounds_of(Web(2, [(0, 1)]), [[0], [1]]), [[0, 1]])
        self.assertEqual(rounds_of(Web(1, [(0, 0)]), [[0, 1]]), [[0], [1]])
        self.assertEqual(rounds_of(Web(1, [(0, 0)] * 2), [[0, 2, 1, 3]]), [[0, 3, 1, 2]])
        self.assertEqual(rounds_of(Web(1, [(0, 0)] * 2), [[0, 1, 2, 3]]), [[0, 2], [1], [3]])

    def test_without_ties(self):
        for places in (1, 2, 14):
            self.assertEqual(rounds_of(Web(places, []), [[]] * places), [[]])
            self.assertEqual(rounds_of(Web(places, []), ((),) * places), [[]])

    def test_against_the_words(self):
        for web, turns in PAIRS:
            before = (web_state(web), [list(turn) for turn in turns])
            told = rounds_of(web, turns)
            self.assertEqual(told, plain_rounds(web, turns), before)
            self.assertTrue(type(told) is list and all(type(found) is list for found in told))
            self.assertEqual(rounds_of(web, tuple(tuple(turn) for turn in turns)), told)
            self.assertEqual((web_state(web), turns), before)

    def test_each_dart_once_in_order(self):
        for web, turns in PAIRS:
            told = rounds_of(web, turns)
            self.assertEqual(sorted(dart for found in told for dart in found), list(range(2 * len(web.ties))))
            firsts = [found[0] for found in told if found]
            self.assertEqual(firsts, sorted(firsts))
            self.assertEqual(firsts, [min(found) for found in told if found])

    def test_the_lists_are_the_askers_own(self):
        ring, turns = Web(3, [(0, 1), (1, 2), (2, 0)]), [[0, 5], [2, 1], [4, 3]]
        told = rounds_of(ring, turns)
        told[0].append(9)
        told.pop()
        self.assertEqual(rounds_of(ring, turns), [[0, 2, 4], [1, 5, 3]])
        empty = rounds_of(Web(1, []), [[]])
        empty[0].append(1)
        self.assertEqual(rounds_of(Web(1, []), [[]]), [[]])

    def test_bad_turns(self):
        web = Web(3, [(0, 1), (1, 2), (2, 0), (1, 1)])
        fine = [[0, 5], [2, 6, 1, 7], [4, 3]]
        self.assertEqual(sum(len(found) for found in rounds_of(web, fine)), 8)
        wrong = [
            [], [[]], [[], [], []], fine[:2], fine + [[]], [[]] + fine, fine[::-1], [fine[0], fine[2], fine[1]],
            [[0], [2, 6, 1, 7], [4, 3]], [[0, 5], [2, 6, 1], [4, 3]], [[0, 5], [2, 6, 1, 7], []],
            [[0, 5, 0], [2, 6, 1, 7], [4, 3]], [[0, 0], [2, 6, 1, 7], [4, 3]], [[0, 5], [2, 6, 1, 7, 7], [4, 3]],
            [[0, 5], [2, 6, 1, 6], [4, 3]], [[1, 5], [2, 6, 0, 7], [4, 3]], [[0, 5, 4], [2, 6, 1, 7], [3]],
            [[0, 5], [2, 6, 1, 7], [4, 3, 8]], [[0, 5], [2, 6, 1, 7, 8, 9], [4, 3]], [[0, 5], [2, 6, 1, 7], [4, -1]],
            [[0, 5], [2, 6, 1, 7], [4, FAR]], [[0, 5], [2, 6, 1, 7], [4, 3, -FAR]], [[0, 5], [2, 6, 1, 8], [4, 3]],
            [[0, 5, 2, 6, 1, 7, 4, 3]], [[0, 5], [2, 6, 1, 7, 4, 3]],
        ]
        for turns in wrong:
            for handed in (turns, tuple(tuple(turn) for turn in turns)):
                for asked in (rounds_of, lies_flat, other_web):
                    with self.assertRaises(BadTurns, msg=repr(turns)):
                        asked(web, handed)

    def test_bad_turns_without_ties_and_not_joined(self):
        for web, turns in ((Web(1, []), []), (Web(1, []), [[], []]), (Web(1, []), [[0]]), (Web(2, []), [[]]),
                           (Web(2, []), [[], [0]]), (Web(2, [(0, 0)]), [[0], [1]]), (Web(2, [(0, 0)]), [[0, 1]])):
            for asked in (rounds_of, lies_flat, other_web):
                with self.assertRaises(BadTurns):
                    asked(web, turns)


class FlatWebs(unittest.TestCase):
    """[11.3]"""

    def test_lies_flat(self):
        flat = 0
        for web, turns in PAIRS:
            before = (web_state(web), [list(turn) for turn in turns])
            told = lies_flat(web, turns)
            self.assertIs(told, is_plain_flat(web, turns))
            flat += told
            self.assertEqual((web_state(web), turns), before)
        self.assertGreater(flat, 100)

    def test_not_joined(self):
        for web in (Web(2, []), Web(2, [(0, 0)]), Web(3, [(0, 1), (1, 0)]), Web(4, [(0, 1), (2, 3)])):
            turns = plain_turns(web)
            self.assertIs(lies_flat(web, turns), False)
            with self.assertRaises(NotFlat):
                other_web(web, turns)

    def test_the_empty_web(self):
        self.assertIs(lies_flat(Web(1, []), [[]]), True)
        self.assertEqual(web_state(other_web(Web(1, []), [[]])), (1, []))

    def test_other_web_told_by_hand(self):
        ring = Web(3, [(0, 1), (1, 2), (2, 0)])
        self.assertEqual(web_state(other_web(ring, [[0, 5], [2, 1], [4, 3]])), (2, [(0, 1)] * 3))
        path = Web(3, [(0, 1), (2, 1)])
        self.assertEqual(web_state(other_web(path, [[0], [1, 3], [2]])), (1, [(0, 0)] * 2))
        self.assertEqual(web_state(other_web(Web(1, [(0, 0)]), [[1, 0]])), (2, [(0, 1)]))

    def test_other_web_against_the_words(self):
        for web, turns in PAIRS:
            before = (web_state(web), [list(turn) for turn in turns])
            if not is_plain_flat(web, turns):
                with self.assertRaises(NotFlat):
                    other_web(web, turns)
                continue
            rounds = plain_rounds(web, turns)
            if len(rounds) > 14:
                continue
            told = other_web(web, turns)
            self.assertIs(type(told), Web)
            at = {dart: number for number, found in enumerate(rounds) for dart in found}
            self.assertEqual(web_state(told), (len(rounds), [(at[2 * tie], at[2 * tie + 1])
                                                             for tie in range(len(web.ties))]))
            self.assertEqual((web_state(web), turns), before)

    def test_the_trees_of_the_other_web(self):
        for web, turns in PAIRS:
            if len(web.ties) <= 9 and is_plain_flat(web, turns):
                numbers = range(len(web.ties))
                left = [tuple(tie for tie in numbers if tie not in tree) for tree in plain_trees(web)]
                self.assertEqual(plain_trees(other_web(web, turns)), sorted(left))

    def test_a_great_flat_web(self):
        web, turns = wheel_web(), wheel_turns()
        self.assertIs(lies_flat(web, turns), True)
        made = other_web(web, turns)
        self.assertEqual((made.places, len(made.ties), tree_count(made)), (14, 26, 271441))
        for number in range(0, 271441, 27000):
            self.assertIs(is_tree(made, left_of(web, tree_at(web, number))), True)

    def test_beyond_the_most_places(self):
        for made in (bundle, flower):
            fitting = 14 if made == bundle else 13
            web, turns = made(fitting)
            self.assertEqual(other_web(web, turns).places, 14)
            for ties in (fitting + 1, 20, 30):
                web, turns = made(ties)
                self.assertIs(lies_flat(web, turns), True)
                with self.assertRaises(BadWeb):
                    other_web(web, turns)

    def test_the_refusals_in_their_order(self):
        web, turns = bundle(20)
        with self.assertRaises(BadTurns):
            other_web(web, [turns[0], turns[1][:-1]])
        # Both turned the same way, the bundle has two rounds at most.
        with self.assertRaises(NotFlat):
            other_web(web, [turns[0], turns[1][::-1]])

    def test_no_list_is_shared(self):
        web, turns = bundle(3)
        made = other_web(web, turns)
        made.ties.clear()
        self.assertEqual(web_state(other_web(web, turns)), (3, [(0, 1), (1, 2), (2, 0)]))


class LeftOf(unittest.TestCase):
    """[11.3]"""

    def test_each_tree(self):
        for web in some_webs() + chance_webs(135, 60, 6, 9) + [Web(1, []), Web(1, [(0, 0)])]:
            before = web_state(web)
            for tree in plain_trees(web):
                for handed in (tree, list(tree)):
                    told = left_of(web, handed)
                    self.assertEqual(told, tuple(tie for tie in range(len(web.ties)) if tie not in tree))
                    self.assertIs(type(told), tuple)
                    self.assertEqual(handed, type(handed)(tree))
            self.assertEqual(web_state(web), before)
        self.assertEqual(left_of(WEB, TREES[0]), (2, 3, 4))

    def test_no_tree(self):
        for tree in NO_TREES:
            for handed in (list(tree), tuple(tree)):
                with self.assertRaises(NoTree):
                    left_of(WEB, handed)
        with self.assertRaises(NoTree):
            left_of(Web(2, []), ())


if __name__ == "__main__":
    unittest.main()
