"""Points [30] to [32], with [1] for them."""

import copy
import functools
import random
import unittest
from itertools import combinations, permutations

from commonweb.errors import NoTable, WebError
from commonweb.matchings import best_matching, is_best
from tests.samples import deep, odd_things

MOST = 10 ** 9
TABLE = [[3, 1, 0], [2, 4, 4]]


def plain_matchings(table):
    """All matchings of the table, by trying every choice of rows and columns."""
    for size in range(min(len(table), len(table[0])) + 1):
        for rows in combinations(range(len(table)), size):
            for columns in permutations(range(len(table[0])), size):
                yield list(zip(rows, columns))


def plain_best(table):
    """(sum, the first matching with it that has no pair of worth 0), by trying all."""
    told = []
    for matching in plain_matchings(table):
        worths = [table[row][column] for row, column in matching]
        if 0 not in worths:
            told.append((-sum(worths), matching))
    total, matching = min(told)
    return -total, matching


def best_by_rows(table):
    """The same, for larger tables, row by row: of each set of columns the best from there on."""
    @functools.lru_cache(maxsize=None)
    def best(row, left):
        if row == len(table):
            return 0, ()
        told = [best(row + 1, left)]
        for column in left:
            if table[row][column]:
                total, behind = best(row + 1, left - {column})
                told.append((total + table[row][column], ((row, column), *behind)))
        most = max(total for total, _ in told)
        # Lists of one sum: none of them begins another one.
        return most, min(matching for total, matching in told if total == most)
    total, matching = best(0, frozenset(range(len(table[0]))))
    return total, list(matching)


def chance_table(chance, height, width, worths):
    return [[chance.choice(worths) for _ in range(width)] for _ in range(height)]


def chance_tables():
    """Tables of one to eight rows and columns, with worths alike, of 0, and of 10 ** 9."""
    chance = random.Random(30)
    told = []
    for height in range(1, 9):
        for width in range(1, 9):
            for worths in ((0,), (1,), (0, 1), (0, 0, 1, 2), (1, 2, 3), (0, 1, MOST), (MOST - 1, MOST), range(100),
                           range(MOST + 1)):
                told.append(chance_table(chance, height, width, worths))
    return told


def tables_of_eight():
    """Some hundred tables of eight rows and columns, of worths that are unlike and of many alike."""
    chance = random.Random(11)
    told = []
    for _ in range(100):
        worths = chance.sample(range(101), 64)
        told.append([worths[at:at + 8] for at in range(0, 64, 8)])
        told.append(chance_table(chance, 8, 8, range(MOST + 1)))
    for worths in ((0, 1), (0, 0, 0, 0, 1), (1, 2), (0, 1, 2, 3), (7, 7, 7, 8), (0, 5, 5, MOST), range(10)):
        told += [chance_table(chance, 8, 8, worths) for _ in range(20)]
    for _ in range(60):
        # Worths that are two numbers together, but for a few: nearly all matchings are greatest.
        rows, columns = [[chance.randrange(4) for _ in range(8)] for _ in range(2)]
        less = [0] * chance.choice((5, 20, 60)) + [1]
        told.append([[max(0, row + column - chance.choice(less)) for column in columns] for row in rows])
        # Some places of worth 1, one in each row and column among them: matchings of all are hidden.
        order = chance.sample(range(8), 8)
        share = chance.randrange(5)
        told.append([[int(column == end or chance.randrange(8) < share) for column in range(8)] for end in order])
    return told


class BestMatching(unittest.TestCase):
    """[30], [31]"""

    def assert_best(self, table, total, matching):
        told = best_matching(table)
        self.assertIs(type(told), tuple)
        self.assertEqual(told[:2], (total, matching))
        self.assertEqual(len(told), 4)
        _, _, rows, columns = told
        self.assertEqual([type(part) for part in told], [int, list, list, list])
        self.assertEqual([len(rows), len(columns)], [len(table), len(table[0])])
        for number in rows + columns:
            self.assertIs(type(number), int)
            self.assertGreaterEqual(number, 0)
        for row, worths in zip(rows, table):
            for column, worth in zip(columns, worths):
                self.assertLessEqual(worth, row + column)
        self.assertEqual(sum(rows) + sum(columns), total)
        self.assertIs(is_best(table, told), True)

    def test_one_row_or_column(self):
        self.assert_best([[0]], 0, [])
        self.assert_best([[7]], 7, [(0, 0)])
        self.assert_best([[MOST]], MOST, [(0, 0)])
        self.assert_best([[1, 3, 2, 3]], 3, [(0, 1)])
        self.assert_best([[1], [3], [2], [3]], 3, [(1, 0)])
        self.assert_best([[0] * 8], 0, [])
        self.assert_best([[0]] * 8, 0, [])

    def test_some_tables(self):
        self.assert_best(TABLE, 7, [(0, 0), (1, 1)])
        # The greatest worth is not taken where the two others are more.
        self.assert_best([[5, 4], [4, 0]], 8, [(0, 1), (1, 0)])
        self.assert_best([[5, 4], [0, 0]], 5, [(0, 0)])
        # A row or column may be left out, though a worth there is not 0.
        self.assert_best([[1, 9], [9, 1], [5, 5]], 18, [(0, 1), (1, 0)])
        self.assert_best([[1, 9, 5], [9, 1, 5]], 18, [(0, 1), (1, 0)])

    def test_the_first_of_those_alike(self):
        for many in range(1, 9):
            table = [[1] * many for _ in range(many)]
            self.assert_best(table, many, [(at, at) for at in range(many)])
        self.assert_best([[1, 1], [1, 0]], 2, [(0, 1), (1, 0)])
        self.assert_best([[2, 1], [2, 1]], 3, [(0, 0), (1, 1)])
        # One that leaves the first row out comes behind one that has it.
        self.assert_best([[1], [1]], 1, [(0, 0)])
        self.assert_best([[1, 0], [1, 1], [1, 1]], 2, [(0, 0), (1, 1)])
        self.assert_best([[0, 2], [2, 2]], 4, [(0, 1), (1, 0)])

    def test_no_pair_of_worth_nothing(self):
        self.assert_best([[0, 0], [0, 0]], 0, [])
        self.assert_best([[0, 3], [0, 0]], 3, [(0, 1)])
        self.assert_best([[0, 0], [0, 3]], 3, [(1, 1)])

    def test_great_worths(self):
        self.assert_best([[MOST] * 8] * 8, 8 * MOST, [(at, at) for at in range(8)])
        table = [[MOST - (row != column) for column in range(8)] for row in range(8)]
        self.assert_best(table, 8 * MOST, [(at, at) for at in range(8)])
        self.assert_best([row[::-1] for row in table], 8 * MOST, [(at, 7 - at) for at in range(8)])

    def test_held_against_all_matchings(self):
        chance = random.Random(31)
        for height in range(1, 6):
            for width in range(1, 6):
                for worths in ((0, 1), (0, 1, 2), (0, 0, 0, 1, MOST), (1, 2, 3), range(20)):
                    for _ in range(3 if height * width > 15 else 20):
                        table = chance_table(chance, height, width, worths)
                        wanted = plain_best(table)
                        self.assertEqual(best_by_rows(table), wanted)
                        self.assert_best(table, *wanted)

    def test_every_table_of_two_rows(self):
        for at in range(3 ** 6):
            worths = [at // 3 ** seat % 3 for seat in range(6)]
            for table in ([worths[:3], worths[3:]], [worths[:2], worths[2:4], worths[4:]]):
                self.assert_best(table, *plain_best(table))

    def test_all_sizes(self):
        for table in chance_tables():
            self.assert_best(table, *best_by_rows(table))

    def test_tables_of_eight_rows_and_columns(self):
        tables = tables_of_eight()
        self.assertGreater(len(tables), 400)
        firsts = 0
        for table in tables:
            total, matching = best_by_rows(table)
            self.assert_best(table, total, matching)
            firsts += matching != [(at, at) for at in range(8)]
        self.assertGreater(firsts, 300)

    def test_the_other_way_about(self):
        for table in chance_tables()[::5]:
            turned = [list(column) for column in zip(*table)]
            self.assertEqual(best_matching(turned)[0], best_matching(table)[0])

    def test_tables_stay_and_are_not_kept(self):
        table = copy.deepcopy(TABLE)
        told = best_matching(table)
        self.assertEqual(table, TABLE)
        wanted = copy.deepcopy(told)
        table[0][0] = 9
        table[1].clear()
        self.assertEqual(told, wanted)
        for part in told[1:]:
            part.clear()
        self.assertEqual(best_matching(copy.deepcopy(TABLE)), wanted)
        row = [1, 1]
        told = best_matching([row, row])
        told[2].append(5)
        told[3].append(5)
        self.assertEqual(row, [1, 1])
        self.assertEqual(best_matching([row, row])[:2], (2, [(0, 0), (1, 1)]))


def no_tables():
    """Things that are no tables, by their names."""
    told = {
        "no row": [], "nine rows": [[1]] * 9, "nine columns": [[1] * 9], "many": [[1] * 9] * 9,
        "empty row": [[]], "empty rows": [[], []], "row and empty row": [[1], []],
        "empty row and row": [[], [1]],
        "longer": [[1], [1, 2]], "shorter": [[1, 2], [1]], "last shorter": [[1, 2]] * 7 + [[1]],
        "below": [[-1]], "below among": [[1, 2], [3, -1]], "above": [[MOST + 1]],
        "above among": [[MOST, 2], [MOST + 1, 1]],
        "far above": [[10 ** 400]], "far below": [[-10 ** 400]], "true": [[True]],
        "false": [[False]], "truth among": [[1, 0], [0, True]],
        "text": [["1"]], "text row": ["1"], "text table": "1", "letters": ["12", "34"], "bytes": [b"12"],
        "tuple": ([1],), "tuple row": [(1,)], "tuple among": [[1], (1,)], "number": [1], "bare": 1,
        "none": [[None]], "list": [[[1]]],
        "dict": {0: [1]}, "dict row": [{0: 1}], "set row": [{1}], "range": [range(3)],
    }
    for name, odd in odd_things().items():
        told["odd row behind " + name] = [[1], odd]
        # What is no web and no pair may be a table, a row of one or a worth.
        if name != "list of lists":
            told["odd " + name] = odd
        if name != "list":
            told["odd row " + name] = [odd]
        if name != "2":
            told["odd worth " + name] = [[odd]]
            told["odd worth behind " + name] = [[1, 2], [3, odd]]
    told["odd worths"] = [[0, [0, 1]]]
    told["deep row"] = [deep(list)]
    return told


class NoTables(unittest.TestCase):
    """[31]"""

    def test_refused(self):
        for name, thing in no_tables().items():
            with self.subTest(name=name):
                with self.assertRaises(NoTable):
                    best_matching(thing)

    def test_a_refusal_is_a_web_error(self):
        self.assertRaises(WebError, best_matching, [])
        self.assertRaises(ValueError, best_matching, None)

    def test_the_edges_are_tables(self):
        for height in (1, 8):
            for width in (1, 8):
                for worth in (0, MOST):
                    best_matching([[worth] * width for _ in range(height)])


class IsBest(unittest.TestCase):
    """[32]"""

    def assert_not(self, table, things):
        for name, thing in things.items():
            with self.subTest(name=name):
                self.assertIs(is_best(table, thing), False)

    def test_what_is_told_is_best(self):
        for table in chance_tables():
            self.assertIs(is_best(table, best_matching(table)), True)

    def test_any_greatest_matching_will_do(self):
        table = [[1, 1], [1, 1]]
        for matching in ([(0, 0), (1, 1)], [(0, 1), (1, 0)]):
            for rows, columns in (([1, 1], [0, 0]), ([0, 0], [1, 1])):
                self.assertIs(is_best(table, (2, matching, rows, columns)), True)

    def test_pairs_of_worth_nothing_may_stand(self):
        table = [[0, 3], [0, 0]]
        self.assertIs(is_best(table, (3, [(0, 1)], [3, 0], [0, 0])), True)
        self.assertIs(is_best(table, (3, [(0, 1), (1, 0)], [0, 0], [0, 3])), True)
        self.assertIs(is_best([[0]], (0, [], [0], [0])), True)
        self.assertIs(is_best([[0]], (0, [(0, 0)], [0], [0])), True)

    def test_numbers_as_told(self):
        good = (7, [(0, 0), (1, 1)], [3, 4], [0, 0, 0])
        self.assertIs(is_best(TABLE, good), True)
        self.assertIs(is_best(TABLE, (*good[:2], [2, 3], [1, 1, 0])), False)
        self.assertIs(is_best(TABLE, (*good[:2], [2, 3], [1, 0, 1])), False)
        self.assert_not(TABLE, {
            "less": (*good[:2], [3, 3], [0, 0, 0]), "more": (*good[:2], [3, 5], [0, 0, 0]),
            "below": (*good[:2], [4, 4], [-1, 0, 0]), "low row": (*good[:2], [-1, 4], [4, 2, 0]),
            "uncovered": (*good[:2], [4, 3], [0, 0, 0]), "short rows": (*good[:2], [7], [0, 0, 0]),
            "long rows": (*good[:2], [3, 4, 0], [0, 0, 0]), "short columns": (*good[:2], [3, 4], [0, 0]),
            "long columns": (*good[:2], [3, 4], [0, 0, 0, 0]), "about": (*good[:2], [0, 0, 0], [3, 4]),
            "far": (*good[:2], [10 ** 400, 4], [3 - 10 ** 400, 0, 0]),
        })

    def test_the_sum(self):
        good = (7, [(0, 0), (1, 1)], [3, 4], [0, 0, 0])
        self.assert_not(TABLE, {
            "less": (6, *good[1:]), "more": (8, *good[1:]), "below": (-7, *good[1:]),
            "text": ("7", *good[1:]),
            "numbers more, too": (8, good[1], [4, 4], [0, 0, 0]),
            "lesser": (6, [(0, 0), (1, 0)], [3, 4], [0, 0, 0]),
            "list": ([7], *good[1:]), "far": (10 ** 400, *good[1:]),
        })
        for thing in (False, True, None):
            self.assertIs(is_best([[0]], (thing, [], [0], [0])), False)
        self.assert_not([[1]], {"true": (True, [(0, 0)], [1], [0])})
        # A matching with a lesser sum has no such numbers; numbers with a greater one show nothing.
        self.assert_not([[5, 4], [4, 0]], {
            "lesser": (5, [(0, 0)], [5, 4], [0, 0]), "its numbers": (5, [(0, 0)], [5, 0], [0, 0]),
            "greater numbers": (8, [(0, 1), (1, 0)], [5, 4], [0, 0]),
            "their sum": (9, [(0, 1), (1, 0)], [5, 4], [0, 0]),
        })

    def test_the_matching(self):
        rest = ([3, 4], [0, 0, 0])
        self.assert_not(TABLE, {
            "falling": (7, [(1, 1), (0, 0)], *rest), "row twice": (7, [(0, 0), (1, 1), (1, 2)], *rest),
            "pair twice": (7, [(0, 0), (1, 1), (1, 1)], *rest), "lesser": (7, [(0, 0)], *rest),
            "other": (7, [(0, 1), (1, 0)], *rest), "beyond": (7, [(0, 0), (2, 1)], *rest),
            "empty": (7, [], *rest),
            "column beyond": (7, [(0, 0), (1, 3)], *rest), "below": (7, [(0, 0), (-1, 1)], *rest),
            "column below": (7, [(0, -3), (1, 1)], *rest), "column below, too": (7, [(0, 0), (1, -1)], *rest),
            "tuple": (7, ((0, 0), (1, 1)), *rest), "lists": (7, [[0, 0], [1, 1]], *rest),
            "short": (7, [(0, 0), (1,)], *rest), "long": (7, [(0, 0, 3), (1, 1, 4)], *rest),
            "dict": (7, {0: 0, 1: 1}, *rest),
            "truth": (7, [(False, 0), (1, 1)], *rest),
            "column truth": (7, [(0, 0), (1, True)], *rest),
            "true": (7, [(0, 0), (True, 1)], *rest),
        })
        # The same column twice would be more than any matching.
        self.assert_not([[4], [4]], {"column twice": (8, [(0, 0), (1, 0)], [4, 4], [0])})
        self.assert_not([[4, 4]], {"row twice": (8, [(0, 0), (0, 1)], [0], [4, 4])})

    def test_lists_and_tuples_differ(self):
        good = (7, [(0, 0), (1, 1)], [3, 4], [0, 0, 0])
        self.assert_not(TABLE, {
            "list": list(good), "short": good[:3], "long": (*good, 0), "empty": (),
            "tuple rows": (*good[:2], (3, 4), good[3]),
            "tuple columns": (*good[:3], (0, 0, 0)), "texts": (*good[:2], ["3", "4"], good[3]),
            "none": (*good[:2], [3, 4], [0, 0, None]),
            "truth": (*good[:3], [False, 0, 0]), "dict": (*good[:2], {0: 3, 1: 4}, good[3]),
        })

    def test_one_thing_otherwise(self):
        for table in chance_tables()[::7]:
            total, matching, rows, columns = best_matching(table)
            things = [(total + 1, matching, rows, columns), (total - 1, matching, rows, columns)]
            for at in range(len(rows)):
                for change in (-1, 1):
                    other = rows[:at] + [rows[at] + change] + rows[at + 1:]
                    things.append((total, matching, other, columns))
            for at in range(len(columns)):
                for change in (-1, 1):
                    other = columns[:at] + [columns[at] + change] + columns[at + 1:]
                    things.append((total, matching, rows, other))
            for at in range(len(matching)):
                things.append((total, matching[:at] + matching[at + 1:], rows, columns))
            for thing in things:
                self.assertIs(is_best(table, thing), False)

    def test_all_matchings_of_small_tables(self):
        chance = random.Random(32)
        for _ in range(60):
            table = chance_table(chance, chance.randrange(1, 5), chance.randrange(1, 5), (0, 1, 2, 3))
            total, _, rows, columns = best_matching(table)
            for matching in plain_matchings(table):
                wanted = sum(table[row][column] for row, column in matching) == total
                self.assertIs(is_best(table, (total, matching, rows, columns)), wanted)

    def test_odd_things_in_every_seat(self):
        good = (7, [(0, 0), (1, 1)], [3, 4], [0, 0, 0])
        for name, odd in odd_things().items():
            with self.subTest(name=name):
                self.assertIs(is_best(TABLE, odd), False)
                self.assertIs(is_best(odd, good), False)
                self.assertIs(is_best(odd, odd), False)
                for seat in range(4):
                    self.assertIs(is_best(TABLE, (*good[:seat], odd, *good[seat + 1:])), False)
                    self.assertIs(is_best([[odd]], (*good[:seat], odd, *good[seat + 1:])), False)
                self.assertIs(is_best(TABLE, (*good, odd)), False)
                self.assertIs(is_best(TABLE, (7, [odd, (1, 1)], *good[2:])), False)
                self.assertIs(is_best(TABLE, (7, [(0, 0), (1, 1), odd], *good[2:])), False)
                self.assertIs(is_best(TABLE, (7, [(odd, 0), (1, 1)], *good[2:])), False)
                self.assertIs(is_best(TABLE, (7, [(0, 0), (1, odd)], *good[2:])), name == "2")
                self.assertIs(is_best(TABLE, (*good[:2], [3, odd], good[3])), False)
                self.assertIs(is_best(TABLE, (*good[:3], [0, 0, odd])), False)

    def test_no_tables(self):
        for name, thing in no_tables().items():
            with self.subTest(name=name):
                for told in ((0, [], [0], [0]), (1, [(0, 0)], [1], [0]), (7, [(0, 0), (1, 1)], [3, 4], [0, 0])):
                    self.assertIs(is_best(thing, told), False)
                self.assertIs(is_best(thing, thing), False)

    def test_things_stay(self):
        thing = (7, [(0, 0), (1, 1)], [3, 4], [0, 0, 0])
        before = repr((TABLE, thing))
        self.assertIs(is_best(TABLE, thing), True)
        self.assertEqual(repr((TABLE, thing)), before)
        thing[2][0] = 2
        self.assertIs(is_best(TABLE, thing), False)


if __name__ == "__main__":
    unittest.main()
