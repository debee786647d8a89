"""Rows that are raised again and again, as number rows are for one chip more."""

from pursewebs.halves import half_of


def bits_of(stands):
    """A set of stands as an integer with one bit for each of them."""
    return sum([1 << stand for stand in stands])


def stands_of(bits):
    """The set of stands that the integer bits tells."""
    return tuple([stand for stand in range(bits.bit_length()) if bits >> stand & 1])


class Heights:
    """A row with the low and the high of each stand, and the stands that have them.

    The row is raised thousands of times. So sets of stands are integers here, and nothing is
    looked for again that cannot have changed.
    """

    def __init__(self, web, row):
        self._marks = web.marks
        self._moving = web.moving
        self._row = list(row)
        self._firsts = [bits_of(steps) for steps in web.first]
        self._seconds = [bits_of(steps) for steps in web.second]
        self._before = [self._leading_to(stand) for stand in range(web.size)]
        self._lows = [min([row[step] for step in steps], default=0) for steps in web.first]
        self._highs = [max([row[step] for step in steps], default=0) for steps in web.second]
        self._low_stands = [0] * web.size
        self._high_stands = [0] * web.size
        self._look()

    def _leading_to(self, stand):
        """The stands with a step to this stand."""
        return bits_of([place for place in self._moving
                        if (self._firsts[place] | self._seconds[place]) >> stand & 1])

    def _look(self):
        """Find each low and high again, which are as before or greater by 1."""
        places = {}
        for stand, part in enumerate(self._row):
            places[part] = places.get(part, 0) | 1 << stand
        for stand in self._moving:
            firsts = self._firsts[stand]
            if not firsts & places.get(self._lows[stand], 0):
                self._lows[stand] += 1
            self._low_stands[stand] = firsts & places.get(self._lows[stand], 0)
            seconds = self._seconds[stand]
            if seconds & places.get(self._highs[stand] + 1, 0):
                self._highs[stand] += 1
            self._high_stands[stand] = seconds & places.get(self._highs[stand], 0)

    def told(self):
        """The row, a tuple."""
        return tuple(self._row)

    def lift(self, stands):
        """Make the row greater by 1 at these stands, told as bits."""
        for stand in stands_of(stands):
            self._row[stand] += 1
        self._look()

    def below(self, most):
        """The stands at which the row is below the row most, as bits."""
        return bits_of([stand for stand, part in enumerate(self._row) if part < most[stand]])

    def rising(self, asked, raised):
        """Those of the asked stands whose price, with the raised ones greater by 1, is above the row, as bits."""
        return asked & ~self._leavers(raised, asked)

    def leaving(self, left, lifted=0):
        """The stands that leave in the rounds 1, 2, .. of falling out, each time as bits.

        left are the stands left over at first. The lifted stands are greater by 1 in each round as well.
        """
        found = []
        gone = self._leavers(left | lifted, left)
        while gone:
            found.append(gone)
            left = left & ~gone
            # Only a stand with a step to one that has left can have got another price.
            asked = 0
            for stand in stands_of(gone):
                asked = asked | self._before[stand]
            gone = self._leavers(left | lifted, left & asked)
        return found

    def staying(self, left, lifted):
        """Those of the stands left over at first that never leave, as bits."""
        for gone in self.leaving(left, lifted):
            left = left & ~gone
        return left

    def price(self, stand):
        """The price of a stand with steps at the row."""
        return half_of(self._marks[stand], self._lows[stand], self._highs[stand])

    def _leavers(self, raised, asked):
        """Those of the asked stands whose price, with the raised ones greater by 1, is not above the row."""
        gone = 0
        for stand in self._moving:
            if asked >> stand & 1 and self._raised_price(stand, raised) <= self._row[stand]:
                gone = gone | 1 << stand
        return gone

    def _raised_price(self, stand, raised):
        """The price of a stand with steps at the row that is greater by 1 at the raised stands."""
        low = self._lows[stand]
        if not self._low_stands[stand] & ~raised:
            low += 1
        high = self._highs[stand]
        if self._high_stands[stand] & raised:
            high += 1
        return half_of(self._marks[stand], low, high)
