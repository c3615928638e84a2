"""The sums of parcels, and by which parcels they are told."""

from rainparcels.sums import added, odd_ones


def row_sum(one, other):
    """The sum of two rows: of their sets, their values and their numbers."""
    return odd_ones(one[0], other[0]), added(one[1], other[1]), odd_ones(one[2], other[2])


class Span:
    """The sums of the parcels that it took, by rows that make up all of them.

    A row is a sum of parcels: a tuple of its set, its value and the numbers
    of those parcels. Each row has one place, its lead, that no other has.
    """

    def __init__(self):
        self.rows = {}

    def rest(self, row):
        """The row, with those rows added that rid it of every lead."""
        for lead, its_row in self.rows.items():
            if lead in row[0]:
                row = row_sum(row, its_row)
        return row

    def take(self, row):
        """Take a row that has a place, but none of the leads."""
        lead = row[0][0]
        for other in list(self.rows):
            if lead in self.rows[other][0]:
                self.rows[other] = row_sum(self.rows[other], row)
        self.rows[lead] = row

    def judged(self, places, value, number):
        """The word of a parcel behind all that were taken, and its numbers; a new one is taken."""
        row = self.rest((places, value, [number]))
        if row[0]:
            self.take(row)
            return "new", []
        numbers = odd_ones(row[2], [number])
        if any(row[1]):
            return "against", numbers
        return "known", numbers

    def opening(self, place):
        """The set of this place, which is no lead, and of the leads whose rows have it.

        Every row has an even number of places in common with it.
        """
        return sorted([place] + [lead for lead in self.rows if place in self.rows[lead][0]])
