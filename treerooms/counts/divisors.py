"""The integers, each dividing the next one, to which a table is led by sums of rows and of columns."""


def divisors_of(rows):
    """These integers for a square table, no sum of whose rows is 0 but the empty one."""
    found = []
    left = [list(row) for row in rows]
    while left:
        left = with_least_first(left)
        left = with_rests(left)
        if not any(left[0][1:]) and not any([row[0] for row in left[1:]]):
            least = left[0][0]
            worse = [row for row in left[1:] if any([many % least != 0 for many in row])]
            if worse:
                left[0] = sums(left[0], worse[0], 1)
            else:
                found.append(abs(least))
                left = [row[1:] for row in left[1:]]
    return tuple(found)


def sums(row, other, times):
    """The row, and the other one, taken some times."""
    return [one + times * two for one, two in zip(row, other)]


def with_least_first(rows):
    """The table with an entry that is nearest to 0, but not 0, in the first row and column."""
    _, at, column = min([
        (abs(many), number, place) for number, row in enumerate(rows) for place, many in enumerate(row) if many != 0
    ])
    lines = [rows[at]] + rows[:at] + rows[at + 1:]
    return [[row[column]] + row[:column] + row[column + 1:] for row in lines]


def with_rests(rows):
    """The table with rests by the first entry in the first row and column."""
    first = rows[0]
    lines = [first] + [sums(row, first, -(row[0] // first[0])) for row in rows[1:]]
    times = [many // first[0] for many in first[1:]]
    return [[row[0]] + [many - row[0] * by for many, by in zip(row[1:], times)] for row in lines]
