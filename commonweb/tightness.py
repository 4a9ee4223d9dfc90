"""The first one of the matchings of a table that have the greatest sum.

The table is made square by worths of 0, so that each matching can be filled up until each row
has a column. By the numbers of `assigned` such a one has the greatest sum just where its pairs
are tight: where the worth of each is the number of its row and that of its column together.
"""

from commonweb.assigning import assigned
from commonweb.masks import all_below, mask_of, numbers_of


def first_matching(table):
    """Of the matchings with the greatest sum that have no pair of worth 0 the first."""
    rows = Rows(table)
    told = []
    for row in range(len(table)):
        column = rows.first_column(row)
        if column is not None:
            told.append((row, column))
    return told


class Rows:
    """The rows of a square table, each with a tight column, of which they may take other ones.

    `taken` has the column of each row, `takers` the row of each column. `free` is the set
    of the columns that no row has for good yet.
    """

    def __init__(self, table):
        many = max(len(table), len(table[0]))
        square = [row + [0] * (many - len(row)) for row in table]
        square.extend([[0] * many for _ in range(many - len(table))])
        told = assigned(square)
        self.taken = told.taken
        self.takers = told.takers
        self.free = all_below(many)
        self.worthy = [mask_of([column for column in range(many) if row[column]]) for row in square]
        self.tight = [tight_columns(row, number, told.columns) for row, number in zip(square, told.rows)]

    def first_column(self, row):
        """The first column of worth above 0 that the row can take, and then has for good, or None.

        Where there is none it gets none later, either: what is left to choose only gets less.
        """
        choices = numbers_of(self.tight[row] & self.worthy[row] & self.free)
        for column in choices:
            if self.takes(row, column):
                self.free &= ~(1 << column)
                return column
        return None

    def takes(self, row, column):
        """True where the row can take the column, and now does; other rows make place for it."""
        end = self.taken[row]
        if column == end:
            return True
        before = self.reached_from(column)
        if end not in before:
            return False
        while end != column:
            self.give(end, self.takers[before[end]])
            end = before[end]
        self.give(column, row)
        return True

    def reached_from(self, column):
        """The columns to which rows can move if this one is taken, each with the one that is left for it."""
        before = {column: None}
        free = self.free & ~(1 << column)
        waiting = [column]
        while waiting:
            leaving = waiting.pop()
            found = self.tight[self.takers[leaving]] & free
            free &= ~found
            for further in numbers_of(found):
                before[further] = leaving
                waiting.append(further)
        return before

    def give(self, column, row):
        """The row has this column now."""
        self.taken[row] = column
        self.takers[column] = row


def tight_columns(worths, number, numbers):
    """The set of the columns whose worth is the row's number and their own together."""
    return mask_of([column for column, worth in enumerate(worths) if worth == number + numbers[column]])
