"""Matchings of the rows and columns of a table of worths.

That none is greater is shown by numbers for the rows and columns: where each worth is
at most the two numbers of its row and column, no matching has more than all of them.
"""

from commonweb.errors import NoTable
from commonweb.tightness import first_matching
from commonweb.webs import rises

MOST_ROWS = 8
MOST_WORTH = 1000000000


def best_matching(table):
    """(sum, matching, rows, columns): the first greatest matching, and numbers that show it."""
    if not is_table(table):
        raise NoTable("no table of worths")
    matching = first_matching(table)
    rows, columns = numbers_for(table, matching)
    return (sum(rows) + sum(columns), matching, rows, columns)


def is_table(thing):
    """True where the thing, which may be anything, is a table of worths."""
    if type(thing) is not list or not 1 <= len(thing) <= MOST_ROWS:
        return False
    if not all(type(row) is list for row in thing):
        return False
    if not 1 <= len(thing[0]) <= MOST_ROWS or not all(len(row) == len(thing[0]) for row in thing):
        return False
    return all(is_whole(worth, MOST_WORTH) for row in thing for worth in row)


def is_whole(thing, most):
    """True where the thing is a whole number from 0 to most."""
    return type(thing) is int and 0 <= thing <= most


def numbers_for(table, matching):
    """The least numbers of rows, with those of columns, that show that the matching is greatest.

    The numbers of a matched pair are its worth together, all others 0. Where a worth is
    more than its two numbers the row's is raised; as the matching is greatest this ends.
    """
    matched = dict(matching)
    rows = [0] * len(table)
    columns = [0] * len(table[0])
    for row, column in matching:
        columns[column] = table[row][column]
    lacking = True
    while lacking:
        lacking = False
        for row in range(len(rows)):
            more = max([worth - number for worth, number in zip(table[row], columns)]) - rows[row]
            if more > 0:
                lacking = True
                rows[row] += more
                columns[matched[row]] -= more
    return (rows, columns)


def is_best(table, thing):
    """True where the thing is what shows a greatest matching of the table; both may be anything."""
    if not is_table(table) or type(thing) is not tuple or len(thing) != 4:
        return False
    total, matching, rows, columns = thing
    if not is_matching(table, matching) or type(total) is not int:
        return False
    if not are_numbers(rows, len(table), total) or not are_numbers(columns, len(table[0]), total):
        return False
    if total != sum([table[row][column] for row, column in matching]):
        return False
    return total == sum(rows) + sum(columns) and covers(table, rows, columns)


def is_matching(table, thing):
    """True where the thing is a matching of the table."""
    if type(thing) is not list:
        return False
    for pair in thing:
        if type(pair) is not tuple or len(pair) != 2:
            return False
        if not is_whole(pair[0], len(table) - 1) or not is_whole(pair[1], len(table[0]) - 1):
            return False
    columns = [pair[1] for pair in thing]
    return rises([pair[0] for pair in thing]) and len(columns) == len(set(columns))


def are_numbers(thing, many, most):
    """True where the thing is a list of so many whole numbers from 0 to most."""
    if type(thing) is not list or len(thing) != many:
        return False
    return all(is_whole(number, most) for number in thing)


def covers(table, rows, columns):
    """True where each worth is at most the numbers of its row and its column together."""
    for row, worths in zip(rows, table):
        if not all(worth <= row + column for worth, column in zip(worths, columns)):
            return False
    return True
