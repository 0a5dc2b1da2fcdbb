"""Ranks and determinants of tables, by whole numbers alone."""


def rests(row, prime):
    if prime == 0:
        return list(row)
    return [number % prime for number in row]


def pivot_place(rows, column):
    for place, row in enumerate(rows):
        if row[column] != 0:
            return place
    return None


# Products crosswise leave a nought in the column without a fraction.
def cleared(row, pivot, column, divisor):
    ahead = pivot[column]
    behind = row[column]
    return [(number * ahead - above * behind) // divisor for number, above in zip(row, pivot)]


def all_cleared(rows, place, column, divisor):
    pivot = rows[place]
    others = rows[:place] + rows[place + 1:]
    return [cleared(row, pivot, column, divisor) for row in others]


def rank_of(rows, prime):
    if len(rows) == 0:
        return 0
    left = [rests(row, prime) for row in rows]
    rank = 0
    divisor = 1
    for column in range(len(rows[0])):
        place = pivot_place(left, column)
        if place is not None:
            ahead = left[place][column]
            left = [rests(row, prime) for row in all_cleared(left, place, column, divisor)]
            rank = rank + 1
            # Over fractions the pivot before goes into every number without a rest, which keeps the numbers short.
            if prime == 0:
                divisor = ahead
    return rank


def determinant(rows):
    left = [list(row) for row in rows]
    sign = 1
    divisor = 1
    for column in range(len(rows)):
        place = pivot_place(left, column)
        if place is None:
            return 0
        # Each row that the pivot is drawn past turns the sign.
        if place % 2 == 1:
            sign = -sign
        ahead = left[place][column]
        left = all_cleared(left, place, column, divisor)
        divisor = ahead
    # The pivot before goes into every number without a rest, so that the last one is the determinant itself.
    return sign * divisor
