import unittest
from fractions import Fraction
from itertools import product
from math import gcd
from random import Random
from time import perf_counter

from sampling import (
    FAR, NO_SETS, WEB, all_sets, chance_webs, fullest_web, great_webs, plain_trees, some_webs, web_state, wheel_web,
)
from spanrow.errors import BadSet, NoSuch, NoTie, Parted
from spanrow.shares import heights_hold, heights_of, lean_of, share_of
from spanrow.webs import Web

PARTED = [Web(2, []), Web(2, [(0, 0), (1, 1)]), Web(3, [(0, 1), (1, 0)]), Web(14, [(0, 13)] * 30)]
WEBS = [(web, plain_trees(web)) for web in some_webs() + chance_webs(91, 100, 5, 8)
        + [Web(1, []), Web(1, [(0, 0)]), Web(2, [(1, 0)] * 5)]]
JOINED = [(web, trees) for web, trees in WEBS if trees]
GREAT = great_webs(92, 5) + [fullest_web(), wheel_web()]


def as_pair(number):
    return (number.numerator, number.denominator)


class Fractions(unittest.TestCase):

    def look_at(self, pair):
        """[0.3]"""
        self.assertIs(type(pair), tuple)
        self.assertTrue(type(pair[0]) is int and type(pair[1]) is int)
        self.assertEqual(len(pair), 2)
        self.assertGreaterEqual(pair[1], 1)
        self.assertEqual(gcd(*pair), 1)


class Shares(Fractions):
    """[8.1]"""

    def test_told_by_hand(self):
        self.assertEqual([share_of(WEB, [tie]) for tie in range(6)], [(3, 5), (2, 5), (2, 5), (0, 1), (3, 5), (1, 1)])
        self.assertEqual(share_of(WEB, []), (1, 1))
        self.assertEqual(share_of(WEB, [1, 2]), (0, 1))
        self.assertEqual(share_of(WEB, [0, 4, 5]), (1, 5))
        self.assertEqual(share_of(Web(1, []), ()), (1, 1))

    def test_against_all_trees(self):
        chance = Random(93)
        for web, trees in JOINED:
            before = web_state(web)
            for ties in chance.sample(all_sets(web), min(25, 2 ** len(web.ties))):
                asked = Fraction(sum(1 for tree in trees if set(ties) <= set(tree)), len(trees))
                for handed in (ties, list(ties)):
                    told = share_of(web, handed)
                    self.look_at(told)
                    self.assertEqual(told, as_pair(asked))
                    self.assertEqual(handed, type(handed)(ties))
            self.assertEqual(web_state(web), before)

    def test_the_sum_of_the_shares(self):
        for web in [web for web, trees in JOINED] + GREAT:
            shares = [Fraction(*share_of(web, (tie,))) for tie in range(len(web.ties))]
            self.assertEqual(sum(shares), web.places - 1)

    def test_refusals_in_their_order(self):
        for ties in NO_SETS:
            for handed in (list(ties), tuple(ties)):
                with self.assertRaises(BadSet):
                    share_of(WEB, handed)
        for web in PARTED:
            for ties in ([-1], [len(web.ties)], [0, 0], [FAR]):
                with self.assertRaises(BadSet):
                    share_of(web, ties)
            for ties in all_sets(web)[:9] if len(web.ties) < 9 else [(), (0,), (0, 29)]:
                with self.assertRaises(Parted):
                    share_of(web, ties)


class Heights(Fractions):
    """[8.2]"""

    def look_at_words(self, web, one, other, heights):
        self.assertIs(type(heights), tuple)
        self.assertEqual(len(heights), web.places)
        for pair in heights:
            self.look_at(pair)
        self.assertEqual(heights[other], (0, 1))
        values = [Fraction(*pair) for pair in heights]
        for place in range(web.places):
            total = 0
            for first, second in web.ties:
                if first != second and place == first:
                    total += values[place] - values[second]
                if first != second and place == second:
                    total += values[place] - values[first]
            self.assertEqual(total, (place == one) - (place == other))
        if one == other:
            self.assertEqual(heights, ((0, 1),) * web.places)

    def test_told_by_hand(self):
        path = Web(3, [(0, 1), (2, 1)])
        self.assertEqual(heights_of(path, 0, 2), ((2, 1), (1, 1), (0, 1)))
        self.assertEqual(heights_of(path, 2, 0), ((0, 1), (1, 1), (2, 1)))
        self.assertEqual(heights_of(path, 1, 0), ((0, 1), (1, 1), (1, 1)))
        ring = Web(3, [(0, 1), (1, 2), (2, 0), (2, 2)])
        self.assertEqual(heights_of(ring, 0, 1), ((2, 3), (0, 1), (1, 3)))
        self.assertEqual(heights_of(Web(1, [(0, 0)]), 0, 0), ((0, 1),))

    def test_against_the_words(self):
        for web, trees in JOINED:
            before = web_state(web)
            for one, other in product(range(web.places), repeat=2):
                self.look_at_words(web, one, other, heights_of(web, one, other))
            self.assertEqual(web_state(web), before)

    def test_great_webs_in_good_time(self):
        begun = perf_counter()
        for web in GREAT:
            for one, other in ((0, 13), (13, 0), (5, 5), (6, 7)):
                heights = heights_of(web, one, other)
                self.look_at_words(web, one, other, heights)
                self.assertIs(heights_hold(web, one, other, heights), True)
        self.assertLess(perf_counter() - begun, 60)

    def test_the_share_of_a_tie_is_a_height(self):
        for web in [web for web, trees in JOINED] + GREAT[:2]:
            for tie, ends in enumerate(web.ties):
                self.assertEqual(heights_of(web, *ends)[ends[0]], share_of(web, (tie,)))

    def test_heights_hold(self):
        for web, trees in JOINED[::3]:
            before = web_state(web)
            for one, other in product(range(web.places), repeat=2):
                heights = list(heights_of(web, one, other))
                handed = list(heights)
                self.assertIs(heights_hold(web, one, other, handed), True)
                self.assertEqual(handed, heights)
                self.assertIs(heights_hold(web, one, other, tuple(heights)), True)
                self.assertIs(heights_hold(web, one, other, heights + [(0, 1)]), False)
                self.assertIs(heights_hold(web, one, other, heights[:-1]), False)
                self.assertIs(heights_hold(web, one, other, []), False)
                for place in range(web.places):
                    for more in (1, -1, Fraction(1, 7)):
                        changed = list(heights)
                        changed[place] = as_pair(Fraction(*heights[place]) + more)
                        self.assertIs(heights_hold(web, one, other, changed), False)
                # All higher by one: each sum holds, but the other place is not at 0.
                lifted = [as_pair(Fraction(*pair) + 1) for pair in heights]
                self.assertIs(heights_hold(web, one, other, lifted), False)
            self.assertEqual(web_state(web), before)

    def test_refusals_in_their_order(self):
        for web in [WEB, Web(1, [])] + PARTED:
            for wrong in (-1, -web.places, web.places, FAR, -FAR):
                for one, other in ((wrong, 0), (0, wrong), (wrong, wrong)):
                    with self.assertRaises(NoSuch):
                        heights_of(web, one, other)
                    for heights in ([], [(0, 1)] * web.places):
                        with self.assertRaises(NoSuch):
                            heights_hold(web, one, other, heights)
        for web in PARTED:
            for one, other in ((0, 0), (0, 1), (1, 0)):
                with self.assertRaises(Parted):
                    heights_of(web, one, other)
                for heights in ([], [(0, 1)] * web.places):
                    with self.assertRaises(Parted):
                        heights_hold(web, one, other, heights)


class Leans(Fractions):
    """[8.3]"""

    def test_against_the_heights(self):
        for web, trees in JOINED:
            before = web_state(web)
            for tie, other in product(range(len(web.ties)), repeat=2):
                heights = [Fraction(*pair) for pair in heights_of(web, *web.ties[tie])]
                first, second = web.ties[other]
                told = lean_of(web, tie, other)
                self.look_at(told)
                self.assertEqual(told, as_pair(heights[first] - heights[second]))
                self.assertEqual(told, lean_of(web, other, tie))
            self.assertEqual(web_state(web), before)

    def test_against_all_trees(self):
        for web, trees in JOINED:
            shares = [Fraction(sum(1 for tree in trees if tie in tree), len(trees)) for tie in range(len(web.ties))]
            for tie, other in product(range(len(web.ties)), repeat=2):
                lean = Fraction(*lean_of(web, tie, other))
                both = Fraction(sum(1 for tree in trees if tie in tree and other in tree), len(trees))
                if tie == other:
                    self.assertEqual(lean, shares[tie])
                else:
                    self.assertEqual(both, shares[tie] * shares[other] - lean * lean)

    def test_the_order_of_the_ends_tells_the_sign(self):
        ring = Web(3, [(0, 1), (1, 2), (0, 2)])
        self.assertEqual(lean_of(ring, 0, 1), (-1, 3))
        self.assertEqual(lean_of(ring, 0, 2), (1, 3))
        self.assertEqual(lean_of(ring, 0, 0), (2, 3))

    def test_loops(self):
        for tie in range(6):
            self.assertEqual(lean_of(WEB, 3, tie), (0, 1))
            self.assertEqual(lean_of(WEB, tie, 3), (0, 1))

    def test_great_webs(self):
        for web in GREAT[:3]:
            for tie, other in ((0, 1), (4, 20), (29 % len(web.ties), 7)):
                lean = Fraction(*lean_of(web, tie, other))
                one, two = Fraction(*share_of(web, (tie,))), Fraction(*share_of(web, (other,)))
                self.assertEqual(Fraction(*share_of(web, sorted((tie, other)))), one * two - lean * lean)

    def test_refusals_in_their_order(self):
        for web in [WEB, Web(1, [])] + PARTED:
            for wrong in (-1, -len(web.ties) - 1, len(web.ties), FAR, -FAR):
                for tie, other in ((wrong, 0), (0, wrong), (wrong, wrong)):
                    with self.assertRaises(NoTie):
                        lean_of(web, tie, other)
        for web in PARTED[1:]:
            for tie, other in ((0, 0), (0, 1), (1, 0)):
                with self.assertRaises(Parted):
                    lean_of(web, tie, other)


if __name__ == "__main__":
    unittest.main()
