"""Which column each row of a table takes, no two the same one, so that their worths are most.

That it is most is kept up by numbers for rows and columns, from 0 on: each worth is at
most the two of its row and column, a taken one is just these two, and a column that is
not taken has the number 0.
"""


def assigned(table):
    """An Assigner by which each row has taken a column.

    The table has a row, at least as many columns as rows, and worths from 0 on; pairs of
    worth 0 are taken, too.
    """
    told = Assigner(table)
    for row in range(len(table)):
        told.take_in(row)
    return told


class Assigner:
    """Lets the rows of a table take columns, one row behind the other."""

    def __init__(self, table):
        self.table = table
        self.rows = [0] * len(table)
        self.columns = [0] * len(table[0])
        self.taken = [None] * len(table)
        self.takers = [None] * len(table[0])

    def take_in(self, row):
        """One row more takes a column, for which others may take other ones.

        The far of a column is what the row must give up, so that it, or one that makes
        place for it, may take the column; of those that are left the least far is met next.
        """
        far = [number - worth for number, worth in zip(self.columns, self.table[row])]
        before = [row] * len(far)
        left = list(range(len(far)))
        met = []
        column = self.least_far(far, left)
        while self.takers[column] is not None:
            met.append(column)
            left.remove(column)
            self.go_on(column, far, before, left)
            column = self.least_far(far, left)
        self.give_up(row, far[column], far, met)
        self.move(row, column, before)

    def least_far(self, far, left):
        """The least far of the columns that are left, one that is not taken if it may be."""
        return min([(far[column], self.takers[column] is not None, column) for column in left])[2]

    def go_on(self, column, far, before, left):
        """Lets the columns that are left be met from the row that has this one."""
        taker = self.takers[column]
        worths = self.table[taker]
        given = far[column] + self.rows[taker]
        for further in left:
            through = given + self.columns[further] - worths[further]
            if through < far[further]:
                far[further] = through
                before[further] = taker

    def give_up(self, row, most, far, met):
        """Shifts the numbers so that all steps to the column that is so far are between taken ones."""
        self.rows[row] = -most
        for column in met:
            self.rows[self.takers[column]] -= most - far[column]
            self.columns[column] += most - far[column]

    def move(self, row, column, before):
        """Each row on the way to the column takes the one that it was met by, and row the first."""
        while column is not None:
            taker = before[column]
            further = self.taken[taker]
            self.taken[taker] = column
            self.takers[column] = taker
            column = further


def best_pairs(table):
    """Pairs (row, column) of worth above 0, no row or column twice, whose worths are most together.

    The table may be of any shape, and have no column or no row.
    """
    if not table or not table[0]:
        return []
    if len(table) > len(table[0]):
        return [(row, column) for column, row in pairs_by_rows(list(zip(*table)))]
    return pairs_by_rows(table)


def pairs_by_rows(table):
    """The pairs of a table with at least as many columns as rows."""
    if len(table) == 1:
        # Most tables of small trees are such ones, and told at once.
        taken = [table[0].index(max(table[0]))]
    else:
        taken = assigned(table).taken
    return [(row, column) for row, column in enumerate(taken) if table[row][column]]
