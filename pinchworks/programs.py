"""Linear programs with integers, solved exactly."""

from pinchworks.ratios import NOTHING, ratio


def solve(rows, costs, basis):
    """Return a triple (least cost, amounts, spare prices), all of them ratios.

    The amounts are from 0 on, and `costs` has the cost of a unit of each one.
    Each row is an equation: the factors of all amounts, and behind them their
    sum, from 0 on. `basis` names an amount for each row that stands in this
    row alone, with the factor 1. There has to be a least cost. The spare
    price of an amount is by how much a unit of it costs more than what it
    uses is worth; it is never negative.
    """
    table, bottom = first_table(rows, costs, basis), 1
    held = list(basis)
    column = gaining_column(table)
    while column is not None:
        at = leaving_row(table, held, column)
        factor = table[at][column]
        table = exchanged(table, at, column, bottom)
        bottom = factor
        held[at] = column
        column = gaining_column(table)
    amounts = [NOTHING for _ in costs]
    for row, column in zip(table, held):
        amounts[column] = ratio(row[-1], bottom)
    spare = [ratio(entry, bottom) for entry in table[-1][:-1]]
    return (ratio(-table[-1][-1], bottom), amounts, spare)


def with_own(rows, sums):
    """Return the pair (rows, basis) where each row has an amount of its own behind all others, and then its sum."""
    first = len(rows[0])
    basis = list(range(first, first + len(rows)))
    found = []
    for own, row, whole in zip(basis, rows, sums):
        found.append(row + [1 if column == own else 0 for column in basis] + [whole])
    return (found, basis)


def first_table(rows, costs, basis):
    """Return the rows and below them the row of spare prices, which ends with the cost, made negative."""
    prices = list(costs) + [0]
    for row, column in zip(rows, basis):
        prices = [price - costs[column] * entry for price, entry in zip(prices, row)]
    return [list(row) for row in rows] + [prices]


def gaining_column(table):
    """Return the first column with a negative spare price: taking the first one, the steps come to an end."""
    for column, price in enumerate(table[-1][:-1]):
        if price < 0:
            return column
    return None


def leaving_row(table, held, column):
    """Return the row whose amount first falls to 0 as that of a column grows, of equal ones the first amount."""
    best = None
    for at, amount in enumerate(held):
        row = table[at]
        if row[column] <= 0:
            continue
        if best is None:
            best = at
            continue
        # Compares the two quotients of sums and factors without dividing.
        one, other = row[-1] * table[best][column], table[best][-1] * row[column]
        if one < other or (one == other and amount < held[best]):
            best = at
    return best


def exchanged(table, at, column, bottom):
    """Return the table with the amount of a column in place of that of a row.

    All entries are integers over one common bottom, which is the determinant
    of the columns that are held: so each division leaves no rest.
    """
    chosen = table[at]
    factor = chosen[column]
    found = []
    for number, row in enumerate(table):
        if number == at:
            found.append(row)
        else:
            found.append([(entry * factor - row[column] * part) // bottom for entry, part in zip(row, chosen)])
    return found
