import unittest

from sampling import (
    FAR, WEB, chance_webs, fullest_web, great_webs, joined_webs, joins_all, plain_trees, small_webs, some_webs,
    web_state,
)
from spanrow.counts import count_with, tree_count
from spanrow.errors import BadWeb, NoTie, Parted
from spanrow.making import count_by_parting, drawn_together, idle_ties, left_without, needed_ties, put_together
from spanrow.webs import Web

SOME = some_webs() + chance_webs(51, 60, 6, 9)


def wrong_ties(web):
    return [-1, -len(web.ties) - 1, len(web.ties), len(web.ties) + 1, FAR, -FAR] + [-1 - tie for tie in range(3)]


def plain_drawn(web, tie):
    """The words of [4.1], end by end."""
    low, high = sorted(web.ties[tie])
    ties = []
    for number, ends in enumerate(web.ties):
        if number != tie:
            moved = [low if end == high else end for end in ends]
            ties.append(tuple(end - 1 if end > high else end for end in moved))
    return (web.places - 1, ties)


def numbered_without(tree, tie):
    return tuple(number - 1 if number > tie else number for number in tree if number != tie)


class Drawn(unittest.TestCase):
    """[4.1], [4.2]"""

    def test_told_by_hand(self):
        self.assertEqual(web_state(drawn_together(WEB, 0)), (3, [(0, 1), (1, 0), (2, 2), (1, 0), (0, 2)]))
        self.assertEqual(web_state(drawn_together(WEB, 2)), (3, [(0, 1), (1, 1), (2, 2), (1, 0), (0, 2)]))
        self.assertEqual(web_state(drawn_together(WEB, 4)), (3, [(0, 1), (1, 0), (0, 1), (2, 2), (0, 2)]))
        self.assertEqual(web_state(drawn_together(WEB, 5)), (3, [(0, 1), (1, 2), (2, 1), (0, 0), (2, 0)]))
        self.assertEqual(web_state(drawn_together(Web(2, [(1, 0)]), 0)), (1, []))
        self.assertEqual(web_state(left_without(WEB, 3)), (4, [(0, 1), (1, 2), (2, 1), (2, 0), (0, 3)]))
        self.assertEqual(web_state(left_without(Web(1, [(0, 0)]), 0)), (1, []))

    def test_places_and_ties_for_each_tie(self):
        for web in small_webs() + SOME + great_webs(52, 5):
            before = web_state(web)
            for tie, ends in enumerate(web.ties):
                left = left_without(web, tie)
                self.assertIs(type(left), Web)
                self.assertEqual(web_state(left), (web.places, web.ties[:tie] + web.ties[tie + 1:]))
                if ends[0] != ends[1]:
                    drawn = drawn_together(web, tie)
                    self.assertIs(type(drawn), Web)
                    self.assertEqual(web_state(drawn), plain_drawn(web, tie))
            self.assertEqual(web_state(web), before)

    def test_their_trees(self):
        for web in SOME:
            trees = plain_trees(web)
            for tie, ends in enumerate(web.ties):
                beside = [numbered_without(tree, tie) for tree in trees if tie not in tree]
                self.assertEqual(plain_trees(left_without(web, tie)), sorted(beside))
                if ends[0] != ends[1]:
                    having = [numbered_without(tree, tie) for tree in trees if tie in tree]
                    self.assertEqual(plain_trees(drawn_together(web, tie)), sorted(having))

    def test_their_counts_in_great_webs(self):
        for web in great_webs(53, 4) + [fullest_web()]:
            for tie, ends in enumerate(web.ties):
                self.assertEqual(tree_count(left_without(web, tie)), count_with(web, (), (tie,)))
                if ends[0] != ends[1]:
                    self.assertEqual(tree_count(drawn_together(web, tie)), count_with(web, (tie,), ()))

    def test_no_tie(self):
        for web in [WEB, Web(1, []), Web(14, []), fullest_web()] + some_webs():
            for tie in wrong_ties(web):
                with self.assertRaises(NoTie):
                    drawn_together(web, tie)
                with self.assertRaises(NoTie):
                    left_without(web, tie)

    def test_a_loop(self):
        for web in small_webs() + SOME:
            for tie, ends in enumerate(web.ties):
                if ends[0] == ends[1]:
                    with self.assertRaises(NoTie):
                        drawn_together(web, tie)

    def test_no_list_is_shared(self):
        before = web_state(WEB)
        for made in (drawn_together(WEB, 0), left_without(WEB, 0), put_together(WEB, 0, Web(1, []), 0),
                     put_together(Web(1, []), 0, WEB, 0)):
            self.assertIs(type(made.ties), list)
            self.assertTrue(all(type(ends) is tuple for ends in made.ties))
            self.assertIsNot(made.ties, WEB.ties)
            made.ties.clear()
            self.assertEqual(web_state(WEB), before)


class NeededAndIdle(unittest.TestCase):
    """[4.3]"""

    def test_told_by_hand(self):
        self.assertEqual((needed_ties(WEB), idle_ties(WEB)), ((5,), (3,)))
        self.assertEqual((needed_ties(Web(1, [])), idle_ties(Web(1, []))), ((), ()))
        self.assertEqual((needed_ties(Web(1, [(0, 0)])), idle_ties(Web(1, [(0, 0)]))), ((), (0,)))

    def test_against_all_trees(self):
        for web in joined_webs() + chance_webs(54, 100, 5, 9):
            trees = plain_trees(web)
            if trees:
                before = web_state(web)
                needed = tuple(tie for tie in range(len(web.ties)) if all(tie in tree for tree in trees))
                idle = tuple(tie for tie in range(len(web.ties)) if not any(tie in tree for tree in trees))
                self.assertEqual(needed_ties(web), needed)
                self.assertEqual(idle_ties(web), idle)
                self.assertTrue(type(needed_ties(web)) is tuple and type(idle_ties(web)) is tuple)
                self.assertEqual(web_state(web), before)

    def test_great_webs(self):
        for web in great_webs(55, 10):
            others = [[tie for tie in range(30) if tie != out] for out in range(30)]
            self.assertEqual(needed_ties(web), tuple(out for out in range(30) if not joins_all(web, others[out])))
            self.assertEqual(idle_ties(web), tuple(tie for tie, ends in enumerate(web.ties) if ends[0] == ends[1]))

    def test_parted(self):
        for web in small_webs() + SOME + [Web(2, []), Web(14, [(0, 0)] * 30)]:
            if not joins_all(web, range(len(web.ties))):
                with self.assertRaises(Parted):
                    needed_ties(web)
                with self.assertRaises(Parted):
                    idle_ties(web)


class PutTogether(unittest.TestCase):
    """[4.4]"""

    def test_told_by_hand(self):
        one = Web(3, [(0, 1), (2, 1), (2, 2)])
        other = Web(3, [(2, 0), (1, 1), (1, 2)])
        self.assertEqual(web_state(put_together(one, 1, other, 0)),
                         (5, [(0, 1), (2, 1), (2, 2), (4, 1), (3, 3), (3, 4)]))
        self.assertEqual(web_state(put_together(one, 2, other, 1)),
                         (5, [(0, 1), (2, 1), (2, 2), (4, 3), (2, 2), (2, 4)]))
        self.assertEqual(web_state(put_together(one, 0, other, 2)),
                         (5, [(0, 1), (2, 1), (2, 2), (0, 3), (4, 4), (4, 0)]))
        self.assertEqual(web_state(put_together(Web(1, []), 0, Web(1, []), 0)), (1, []))

    def test_each_two_places(self):
        webs = SOME[:7] + [Web(1, []), Web(1, [(0, 0)]), Web(2, [(1, 0)])]
        for one in webs:
            for other in webs:
                before = (web_state(one), web_state(other))
                for place in range(one.places):
                    for other_place in range(other.places):
                        self.look_at(one, place, other, other_place)
                self.assertEqual((web_state(one), web_state(other)), before)

    def look_at(self, one, place, other, other_place):
        made = put_together(one, place, other, other_place)
        self.assertIs(type(made), Web)
        # Side by side with a tie between the two places, then drawn together there.
        behind = [(ends[0] + one.places, ends[1] + one.places) for ends in other.ties]
        beside = Web(one.places + other.places, one.ties + behind + [(place, one.places + other_place)])
        self.assertEqual(web_state(made), plain_drawn(beside, len(beside.ties) - 1))
        self.assertEqual(tree_count(made), tree_count(one) * tree_count(other))

    def test_trees_are_the_pairs(self):
        one = Web(3, [(0, 1), (2, 1), (2, 2), (2, 0)])
        other = Web(3, [(2, 0), (1, 2), (1, 2)])
        pairs = [tree + tuple(tie + 4 for tie in its) for tree in plain_trees(one) for its in plain_trees(other)]
        for place in range(3):
            for other_place in range(3):
                self.assertEqual(plain_trees(put_together(one, place, other, other_place)), sorted(pairs))

    def test_a_web_and_itself(self):
        made = put_together(WEB, 3, WEB, 0)
        self.assertEqual(tree_count(made), tree_count(WEB) ** 2)

    def test_no_place(self):
        for one, other in ((Web(1, []), Web(3, [(0, 1)])), (Web(3, [(0, 1)]), Web(1, [])), (WEB, WEB)):
            for wrong in (-1, -one.places, one.places, one.places + 1, FAR, -FAR):
                with self.assertRaises(BadWeb):
                    put_together(one, wrong, other, 0)
            for wrong in (-1, -other.places, other.places, other.places + 1, FAR, -FAR):
                with self.assertRaises(BadWeb):
                    put_together(one, 0, other, wrong)
                with self.assertRaises(BadWeb):
                    put_together(one, -1, other, wrong)

    def test_the_most_places_and_ties(self):
        for places in range(1, 15):
            made = put_together(Web(places, []), places - 1, Web(15 - places, []), 14 - places)
            self.assertEqual(web_state(made), (14, []))
        for places in range(2, 15):
            with self.assertRaises(BadWeb):
                put_together(Web(places, []), 0, Web(16 - places, []), 0)
        with self.assertRaises(BadWeb):
            put_together(Web(14, []), 0, Web(14, []), 0)
        for size in range(31):
            made = put_together(Web(2, [(0, 1)] * size), 0, Web(2, [(0, 1)] * (30 - size)), 0)
            self.assertEqual(len(made.ties), 30)
        for size in range(1, 31):
            with self.assertRaises(BadWeb):
                put_together(Web(2, [(0, 1)] * size), 0, Web(2, [(0, 1)] * (31 - size)), 0)
        self.assertEqual(web_state(put_together(fullest_web(), 5, Web(1, []), 0)), web_state(fullest_web()))
        with self.assertRaises(BadWeb):
            put_together(fullest_web(), 5, Web(2, []), 0)
        with self.assertRaises(BadWeb):
            put_together(fullest_web(), 5, Web(1, [(0, 0)]), 0)


class Parting(unittest.TestCase):
    """[4.2]"""

    def test_against_tree_count(self):
        for web in small_webs() + some_webs() + chance_webs(56, 150, 7, 12):
            before = web_state(web)
            told = count_by_parting(web)
            self.assertEqual(told, tree_count(web))
            self.assertIs(type(told), int)
            self.assertEqual(web_state(web), before)

    def test_no_tie_and_twelve(self):
        self.assertEqual(count_by_parting(Web(1, [])), 1)
        for places in range(2, 15):
            self.assertEqual(count_by_parting(Web(places, [])), 0)
        self.assertEqual(count_by_parting(Web(1, [(0, 0)] * 12)), 1)
        self.assertEqual(count_by_parting(Web(2, [(0, 1)] * 12)), 12)
        self.assertEqual(count_by_parting(Web(12, [(place, (place + 1) % 12) for place in range(12)])), 12)
        self.assertEqual(count_by_parting(Web(13, [(place, place + 1) for place in range(12)])), 1)
        self.assertEqual(count_by_parting(Web(14, [(place, place + 1) for place in range(12)])), 0)
        self.assertEqual(count_by_parting(Web(7, [(place, place + 1) for place in range(6)] * 2)), 64)

    def test_thirteen_and_more(self):
        for web in (Web(1, [(0, 0)] * 13), Web(2, [(0, 1)] * 13), Web(14, [(0, 1)] * 13), Web(3, [(0, 2)] * 30),
                    fullest_web()):
            with self.assertRaises(BadWeb):
                count_by_parting(web)


if __name__ == "__main__":
    unittest.main()
