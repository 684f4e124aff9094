import unittest
from fractions import Fraction
from itertools import permutations, product
from math import gcd, prod
from random import Random

from spanrow.errors import NotSquare, Singular
from spanrow.tables import determinant, solved

NOT_SQUARE = (
    [[]], [[], []], [[1, 2]], [[1], [2]], [[1, 2], [3]], [[1], [2, 3]], [[1, 2], [3, 4, 5]], [[1, 2, 3], [4, 5, 6]],
    [[1, 2], [3, 4], [5, 6]], [[1, 0, 0], [0, 1, 0], [0, 0]], [[1, 0, 0], [0, 1], [0, 0, 1]], [[0, 0, 0], [0, 0], [0]],
    [[0] * 14 for row in range(13)], [[0] * 13 for row in range(14)], [[0] * 14 for row in range(13)] + [[0] * 13],
)


def order_sign(order):
    turned = sum(1 for at, one in enumerate(order) for other in order[:at] if other > one)
    return -1 if turned % 2 else 1


def sum_over_orders(table):
    return sum(order_sign(order) * prod(table[row][column] for row, column in enumerate(order))
               for order in permutations(range(len(table))))


def chance_table(chance, size, far):
    return [[chance.randint(-far, far) for column in range(size)] for row in range(size)]


def made_table(chance, size, far):
    """A table of great numbers and its determinant, which its making tells."""
    falling = [chance.choice([-1, 1]) * chance.randint(1, far) for row in range(size)]
    table = [[0] * row + [falling[row]] + [chance.randint(-far, far) for column in range(size - row - 1)]
             for row in range(size)]
    # A row more or less of another one's manifold changes nothing.
    for step in range(3 * size):
        one, other = chance.sample(range(size), 2)
        times = chance.randint(-3, 3)
        table[one] = [own + times * its for own, its in zip(table[one], table[other])]
    order = chance.sample(range(size), size)
    return [table[row] for row in order], order_sign(order) * prod(falling)


class Determinants(unittest.TestCase):
    """[3.1]"""

    def test_told_by_hand(self):
        self.assertEqual(determinant([]), 1)
        self.assertEqual(determinant([[7]]), 7)
        self.assertEqual(determinant([[-7]]), -7)
        self.assertEqual(determinant([[0]]), 0)
        self.assertEqual(determinant([[1, 2], [3, 4]]), -2)
        self.assertEqual(determinant([[0, 1], [1, 0]]), -1)
        self.assertEqual(determinant([[0, 0, 1], [1, 0, 0], [0, 1, 0]]), 1)
        self.assertEqual(determinant([[2, -1, 0], [-1, 2, -1], [0, -1, 2]]), 4)

    def test_all_small_tables_of_two_rows(self):
        for numbers in product(range(-2, 3), repeat=4):
            table = [list(numbers[:2]), list(numbers[2:])]
            self.assertEqual(determinant(table), numbers[0] * numbers[3] - numbers[1] * numbers[2])

    def test_against_the_sum_over_all_orders(self):
        chance = Random(31)
        for size in range(6):
            for far in (1, 2, 9, 10 ** 6, 10 ** 50 - 1):
                for number in range(40):
                    table = chance_table(chance, size, far)
                    told = determinant(table)
                    self.assertEqual(told, sum_over_orders(table), table)
                    self.assertIs(type(told), int)

    def test_many_noughts(self):
        chance = Random(32)
        for number in range(300):
            size = chance.randint(1, 5)
            table = [[chance.choice([0, 0, 0, 1, -1, 5]) for column in range(size)] for row in range(size)]
            self.assertEqual(determinant(table), sum_over_orders(table), table)

    def test_rows_that_hang_on_each_other(self):
        chance = Random(33)
        for size in range(2, 15):
            table = chance_table(chance, size, 10 ** 20)
            self.assertEqual(determinant(table[:-1] + [table[0]]), 0)
            for at in range(size):
                one, other = [row for number, row in enumerate(table) if number != at][:2] if size > 2 else (
                    table[1 - at], table[1 - at])
                mixed = [3 * own - 2 * its for own, its in zip(one, other)]
                self.assertEqual(determinant(table[:at] + [mixed] + table[at + 1:]), 0)
            self.assertEqual(determinant([[0] * size] + table[1:]), 0)
            self.assertEqual(determinant([[0] + row[1:] for row in table]), 0)
            self.assertEqual(determinant([[0] * size for row in range(size)]), 0)

    def test_tables_of_fourteen_rows_known_by_their_making(self):
        chance = Random(34)
        for far in (1, 3, 10 ** 50):
            for number in range(6):
                table, known = made_table(chance, 14, far)
                self.assertEqual(determinant(table), known)
                self.assertEqual(determinant([list(column) for column in zip(*table)]), known)

    def test_orders_alone(self):
        chance = Random(35)
        for number in range(50):
            order = chance.sample(range(14), 14)
            table = [[1 if column == at else 0 for column in range(14)] for at in order]
            self.assertEqual(determinant(table), order_sign(order))

    def test_not_square(self):
        for table in NOT_SQUARE:
            with self.assertRaises(NotSquare, msg=repr(table)):
                determinant(table)
            with self.assertRaises(NotSquare, msg=repr(table)):
                determinant(tuple(tuple(row) for row in table))

    def test_tuples_will_do_and_what_is_handed_in_stays(self):
        table = [[0, 2, 5], [3, 1, 4], [1, 1, 9]]
        before = [list(row) for row in table]
        self.assertEqual(determinant(table), determinant(tuple(tuple(row) for row in table)))
        self.assertEqual(determinant(table), determinant(table))
        self.assertEqual(table, before)


class Solved(unittest.TestCase):
    """[3.1] and [0.3]"""

    def look_at(self, table, right):
        told = solved(table, right)
        self.assertIs(type(told), tuple)
        self.assertEqual(len(told), len(table))
        for pair in told:
            self.assertIs(type(pair), tuple)
            top, bottom = pair
            self.assertTrue(type(top) is int and type(bottom) is int)
            self.assertGreaterEqual(bottom, 1)
            self.assertEqual(gcd(top, bottom), 1)
        for row, number in zip(table, right):
            self.assertEqual(sum(own * Fraction(*pair) for own, pair in zip(row, told)), number)

    def test_told_by_hand(self):
        self.assertEqual(solved([], []), ())
        self.assertEqual(solved([[4]], [6]), ((3, 2),))
        self.assertEqual(solved([[-4]], [6]), ((-3, 2),))
        self.assertEqual(solved([[-4]], [-6]), ((3, 2),))
        self.assertEqual(solved([[-4]], [0]), ((0, 1),))
        self.assertEqual(solved([[4]], [8]), ((2, 1),))
        self.assertEqual(solved([[0, -2], [3, 0]], [0, 5]), ((5, 3), (0, 1)))
        self.assertEqual(solved([[1, 1], [1, -1]], [1, 0]), ((1, 2), (1, 2)))

    def test_put_back_into_each_row(self):
        chance = Random(36)
        for size in range(1, 7):
            for far in (2, 9, 10 ** 30 - 1):
                for number in range(25):
                    table = chance_table(chance, size, far)
                    if determinant(table) != 0:
                        self.look_at(table, [chance.randint(-far, far) for row in range(size)])
                        self.look_at(table, [0] * size)

    def test_fourteen_rows(self):
        chance = Random(37)
        for far in (1, 10 ** 30):
            table, known = made_table(chance, 14, far)
            self.look_at(table, [chance.randint(-far, far) for row in range(14)])

    def test_singular(self):
        for table in ([[0]], [[1, 2], [2, 4]], [[0, 1], [0, 5]], [[1, 2, 3], [4, 5, 6], [7, 8, 9]]):
            for right in ([0] * len(table), list(range(len(table)))):
                with self.assertRaises(Singular):
                    solved(table, right)

    def test_not_square(self):
        for table in NOT_SQUARE:
            for size in range(5):
                with self.assertRaises(NotSquare, msg=repr(table)):
                    solved(table, [1] * size)

    def test_a_list_of_another_length_goes_ahead_of_singular(self):
        for table in ([], [[1]], [[0]], [[1, 0], [0, 1]], [[1, 2], [2, 4]], [[0] * 14 for row in range(14)]):
            for size in (0, 1, 2, 3, 13, 15):
                if size != len(table):
                    with self.assertRaises(NotSquare):
                        solved(table, [1] * size)

    def test_tuples_will_do_and_what_is_handed_in_stays(self):
        table = [[0, 2, 5], [3, 1, 4], [1, 1, 9]]
        right = [1, 0, -6]
        told = solved(table, right)
        self.assertEqual(solved(tuple(tuple(row) for row in table), tuple(right)), told)
        self.assertEqual((table, right), ([[0, 2, 5], [3, 1, 4], [1, 1, 9]], [1, 0, -6]))
        self.assertEqual(solved(table, right), told)


if __name__ == "__main__":
    unittest.main()
