"""The helper that trees and matchings choose by: rows of a table take columns."""

import random
import unittest
from itertools import permutations

from commonweb.assigning import assigned, best_pairs


def most_worth(table):
    """The greatest sum, by trying each order of the columns."""
    if len(table) > len(table[0]):
        table = list(zip(*table))
    orders = permutations(range(len(table[0])), len(table))
    return max(sum(row[column] for row, column in zip(table, order)) for order in orders)


def chance_tables(least_columns):
    chance = random.Random(8)
    for worths in ((0,), (1,), (0, 1), (0, 0, 1, 5), (1, 2, 3), range(100), (0, 10 ** 9)):
        for _ in range(30):
            rows = chance.randrange(1, 6)
            columns = chance.randrange(least_columns(rows), 6)
            yield [[chance.choice(worths) for _ in range(columns)] for _ in range(rows)]


class Assigned(unittest.TestCase):
    def test_numbers_show_that_the_choice_is_best(self):
        for table in chance_tables(lambda rows: rows):
            told = assigned(table)
            self.assertEqual(len(set(told.taken)), len(table))
            total = sum(worths[column] for worths, column in zip(table, told.taken))
            self.assertEqual(total, most_worth(table))
            self.assertEqual(total, sum(told.rows) + sum(told.columns))
            self.assertGreaterEqual(min(told.rows + told.columns), 0)
            for row, worths in zip(told.rows, table):
                for column, worth in zip(told.columns, worths):
                    self.assertLessEqual(worth, row + column)
            for column, row in enumerate(told.takers):
                if row is None:
                    self.assertEqual(told.columns[column], 0)
                else:
                    self.assertEqual(told.taken[row], column)


class BestPairs(unittest.TestCase):
    def test_tables_of_any_shape(self):
        for table in chance_tables(lambda rows: 1):
            pairs = best_pairs(table)
            self.assertEqual(len(set(row for row, _ in pairs)), len(pairs))
            self.assertEqual(len(set(column for _, column in pairs)), len(pairs))
            self.assertNotIn(0, [table[row][column] for row, column in pairs])
            self.assertEqual(sum(table[row][column] for row, column in pairs), most_worth(table))

    def test_no_row_or_no_column(self):
        self.assertEqual(best_pairs([]), [])
        self.assertEqual(best_pairs([[]]), [])
        self.assertEqual(best_pairs([[], [], []]), [])


if __name__ == "__main__":
    unittest.main()
