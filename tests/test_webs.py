import unittest

from sampling import FAR, all_sets, fullest_web, reached, small_webs, some_webs, web_state
from spanrow.errors import BadSet, BadWeb
from spanrow.webs import Web, is_joined, joined_ends, made_set, pieces_of

LOOPED = Web(3, [(0, 1), (1, 1), (2, 0), (1, 0)])
NO_SETS = ([0, 0], [1, 1], [1, 0], [0, 2, 1], [4], [0, 4], [-1], [-1, 0], [0, -1], [-4], [FAR], [-FAR], [0, 1, 2, 3, 4])


class Making(unittest.TestCase):
    """[1.1]"""

    def test_fields(self):
        web = Web(3, [(0, 1), (2, 1)])
        self.assertEqual(web_state(web), (3, [(0, 1), (2, 1)]))
        self.assertIs(type(web.ties), list)
        self.assertTrue(all(type(tie) is tuple for tie in web.ties))

    def test_fewest_and_most_places(self):
        for places in range(1, 15):
            self.assertEqual(Web(places, []).places, places)
            self.assertEqual(Web(places, [(0, places - 1)]).ties, [(0, places - 1)])

    def test_fewest_and_most_ties(self):
        self.assertEqual(Web(1, []).ties, [])
        self.assertEqual(Web(1, [(0, 0)] * 30).ties, [(0, 0)] * 30)
        self.assertEqual(Web(14, [(13, 0)] * 30).ties, [(13, 0)] * 30)
        self.assertEqual((fullest_web().places, len(fullest_web().ties)), (14, 30))

    def test_loops_and_ties_of_the_same_ends(self):
        ties = [(1, 1), (0, 1), (1, 0), (0, 1), (1, 1)]
        self.assertEqual(Web(2, ties).ties, ties)

    def test_numbers_of_places_beyond(self):
        for places in (0, 15, 16, -1, -14, FAR, -FAR):
            with self.assertRaises(BadWeb):
                Web(places, [])
            with self.assertRaises(BadWeb):
                Web(places, [(0, 0)])

    def test_too_many_ties(self):
        for size in (31, 32, 60):
            with self.assertRaises(BadWeb):
                Web(2, [(0, 1)] * size)
            with self.assertRaises(BadWeb):
                Web(2, ((0, 1),) * size)

    def test_an_end_that_is_no_place(self):
        for places in (1, 3, 14):
            for end in (places, places + 1, -1, -places, FAR, -FAR):
                for at in range(4):
                    for tie in ((end, 0), (0, end), (end, end)):
                        ties = [(0, places - 1)] * 4
                        ties[at] = tie
                        with self.assertRaises(BadWeb):
                            Web(places, ties)

    def test_ties_is_a_list_of_its_own(self):
        ties = [(0, 1), (1, 2)]
        web = Web(3, ties)
        other = Web(3, ties)
        ties[0] = (2, 2)
        ties.append((0, 0))
        self.assertEqual(web.ties, [(0, 1), (1, 2)])
        self.assertEqual(other.ties, [(0, 1), (1, 2)])
        self.assertIsNot(web.ties, other.ties)

    def test_a_tuple_of_ties_will_do(self):
        ties = ((0, 1), (1, 2))
        web = Web(3, ties)
        self.assertEqual(web.ties, [(0, 1), (1, 2)])
        self.assertIs(type(web.ties), list)
        self.assertEqual(ties, ((0, 1), (1, 2)))

    def test_what_is_handed_in_stays(self):
        ties = [(0, 1), (1, 2)]
        Web(3, ties)
        self.assertEqual(ties, [(0, 1), (1, 2)])


class Sets(unittest.TestCase):
    """[1.2]"""

    def test_sets_of_lists_and_tuples(self):
        for ties in all_sets(LOOPED):
            for handed in (list(ties), ties):
                told = made_set(LOOPED, handed)
                self.assertEqual(told, ties)
                self.assertIs(type(told), tuple)

    def test_none_and_all_of_the_most_ties(self):
        self.assertEqual(made_set(Web(1, []), []), ())
        self.assertEqual(made_set(fullest_web(), list(range(30))), tuple(range(30)))

    def test_no_sets(self):
        for ties in NO_SETS:
            for handed in (list(ties), tuple(ties)):
                with self.assertRaises(BadSet, msg=repr(handed)):
                    made_set(LOOPED, handed)
        for ties in ([0], [-1], [1]):
            with self.assertRaises(BadSet):
                made_set(Web(1, []), ties)

    def test_what_is_handed_in_stays_and_is_not_kept(self):
        ties = [0, 2]
        told = made_set(LOOPED, ties)
        self.assertEqual(ties, [0, 2])
        ties.append(3)
        self.assertEqual(told, (0, 2))
        refused = [2, 0]
        with self.assertRaises(BadSet):
            made_set(LOOPED, refused)
        self.assertEqual(refused, [2, 0])


class Pieces(unittest.TestCase):
    """[1.3]"""

    def test_over_no_tie_some_and_all(self):
        web = Web(5, [(3, 1), (0, 4), (4, 3), (2, 2), (1, 3)])
        self.assertEqual(pieces_of(web, ()), [[0], [1], [2], [3], [4]])
        self.assertEqual(pieces_of(web, (0,)), [[0], [1, 3], [2], [4]])
        self.assertEqual(pieces_of(web, (0, 1)), [[0, 4], [1, 3], [2]])
        self.assertEqual(pieces_of(web, (3,)), [[0], [1], [2], [3], [4]])
        self.assertEqual(pieces_of(web, (0, 4)), [[0], [1, 3], [2], [4]])
        self.assertEqual(pieces_of(web, (0, 1, 2, 3, 4)), [[0, 1, 3, 4], [2]])
        self.assertEqual(pieces_of(Web(1, []), ()), [[0]])

    def test_against_walking(self):
        for web in small_webs() + some_webs():
            for ties in all_sets(web):
                walks = [reached(web, ties, place) for place in range(web.places)]
                asked = [walk for place, walk in enumerate(walks) if walk[0] == place]
                self.assertEqual(pieces_of(web, ties), asked)
                self.assertIs(is_joined(web, ties), len(asked) == 1)
                for one in range(web.places):
                    for other in range(web.places):
                        self.assertIs(joined_ends(web, ties, one, other), other in walks[one])

    def test_of_the_most_places(self):
        web = fullest_web()
        self.assertEqual(pieces_of(web, tuple(range(30))), [list(range(14))])
        self.assertEqual(pieces_of(web, ()), [[place] for place in range(14)])
        self.assertIs(is_joined(web, list(range(13))), True)
        self.assertIs(is_joined(web, list(range(12))), False)
        self.assertIs(joined_ends(web, list(range(12)), 0, 12), True)
        self.assertIs(joined_ends(web, list(range(12)), 0, 13), False)

    def test_a_place_and_itself(self):
        web = Web(3, [(0, 1), (2, 2)])
        for ties in all_sets(web):
            for place in range(3):
                self.assertIs(joined_ends(web, ties, place, place), True)

    def test_lists_and_tuples_alike_and_unchanged(self):
        web = Web(4, [(0, 1), (2, 3), (1, 1)])
        before = web_state(web)
        ties = [0, 1]
        self.assertEqual(pieces_of(web, ties), [[0, 1], [2, 3]])
        self.assertIs(is_joined(web, ties), False)
        self.assertIs(joined_ends(web, ties, 0, 1), True)
        self.assertEqual(ties, [0, 1])
        self.assertEqual(pieces_of(web, (0, 1)), [[0, 1], [2, 3]])
        self.assertEqual(web_state(web), before)

    def test_what_is_told_may_be_changed(self):
        web = Web(4, [(0, 1), (2, 3), (1, 1)])
        told = pieces_of(web, (0, 1))
        told[0].append(9)
        told[1].clear()
        told.append([7])
        self.assertEqual(pieces_of(web, (0, 1)), [[0, 1], [2, 3]])
        apart = pieces_of(web, ())
        apart[0].append(5)
        self.assertEqual(apart[1:], [[1], [2], [3]])

    def test_no_sets_are_refused(self):
        for ties in NO_SETS:
            for handed in (list(ties), tuple(ties)):
                with self.assertRaises(BadSet):
                    pieces_of(LOOPED, handed)
                with self.assertRaises(BadSet):
                    is_joined(LOOPED, handed)
                for one in range(3):
                    for other in range(3):
                        with self.assertRaises(BadSet):
                            joined_ends(LOOPED, handed, one, other)


if __name__ == "__main__":
    unittest.main()
