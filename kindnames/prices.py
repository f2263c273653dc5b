"""Rows and columns of a square of weights paired as heavily as can be, and the prices that show it."""


def heaviest(weights):
    """The row of each column, and prices of the rows and of the columns.

    The prices of a row and a column together are no less than their weight, and just that of a pair.
    """
    many = len(weights)
    first = [max(row) for row in weights]
    second = [0] * many
    mates = [None] * many
    for row in range(many):
        _pair_row(weights, first, second, mates, row)
    return (mates, first, second)


def _pair_row(weights, first, second, mates, start):
    """Pair one more row, others anew where that is needed."""
    left = list(range(len(mates)))
    rows = [start]
    by = [start] * len(mates)
    slack = [first[start] + second[column] - weights[start][column] for column in left]
    while True:
        least, column = min([(slack[each], each) for each in left])
        for row in rows:
            first[row] -= least
        for each in range(len(mates)):
            if each in left:
                slack[each] -= least
            else:
                second[each] += least
        if mates[column] is None:
            _pair_anew(mates, by, column)
            return
        left.remove(column)
        row = mates[column]
        rows.append(row)
        for each in left:
            lower = first[row] + second[each] - weights[row][each]
            if lower < slack[each]:
                slack[each] = lower
                by[each] = row


def _pair_anew(mates, by, last):
    """Give each column on the way to the last one the row by which it was come to."""
    column = last
    while column is not None:
        row = by[column]
        before = [each for each in range(len(mates)) if mates[each] == row]
        mates[column] = row
        column = before[0] if before else None
