"""Rows of integers, taken up to sums of some rows."""

from treerooms.counts.divisors import divisors_of


class Lattice:
    """All sums of some rows, and of the rows with one integer, `modulus`, and 0 elsewhere.

    A row is a dict from columns to its integers other than 0. For each column
    there is one kept row that begins there, with a lead above 0.
    """

    def __init__(self, modulus):
        self.modulus = modulus
        # The columns that are not here have the row with `modulus` alone.
        self.kept_rows = {}

    def row_at(self, column):
        """The kept row that begins at a column."""
        return self.kept_rows.get(column, {column: self.modulus})

    def lead(self, column):
        """The lead at a column."""
        return self.row_at(column)[column]

    def add(self, row):
        """Take one more row in."""
        rest = {column: many % self.modulus for column, many in row.items() if many % self.modulus != 0}
        while rest:
            column = min(rest)
            kept = self.row_at(column)
            # Euclid's way: the rest of the one row by the other one, as long as there is one.
            while column in rest:
                times = kept[column] // rest[column]
                kept, rest = rest, self._less(kept, rest, times)
            self.kept_rows[column] = kept

    def _less(self, row, other, times):
        """The row less the other one, taken some times; numbers are taken up to `modulus`."""
        found = {column: row[column] for column in row}
        for column, many in other.items():
            left = (found.get(column, 0) - times * many) % self.modulus
            if left == 0:
                found.pop(column, None)
            else:
                found[column] = left
        return found

    def reduced(self, row):
        """The row that differs from a row by sums, with numbers from 0 to the lead less 1."""
        rest = {column: many % self.modulus for column, many in row.items()}
        found = {}
        while rest:
            column = min(rest)
            kept = self.row_at(column)
            times, left = divmod(rest[column], kept[column])
            rest = self._less(rest, kept, times)
            rest.pop(column, None)
            if left > 0:
                found[column] = left
        return found

    def divisors(self, columns):
        """The integers, each dividing the next one and none of them 1, that tell what rows are up to sums.

        All columns of rows are among the given ones.
        """
        wide = [column for column in columns if self.lead(column) > 1]
        rows = []
        for column in wide:
            tail = self.reduced({other: many for other, many in self.row_at(column).items() if other != column})
            rows.append([self.lead(column) if other == column else tail.get(other, 0) for other in wide])
        return tuple([many for many in divisors_of(rows) if many > 1])
