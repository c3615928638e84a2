"""The yard: it gathers parcels and tells what is determined by them."""

from rainparcels.errors import BadPlaces, BadValue, Full, IsOut, NoParcel, NotOut, NoYard
from rainparcels.span import Span
from rainparcels.sums import rising_within

MOST_PIECES = 24
MOST_BITS = 32
MOST_PARCELS = 60


class Yard:
    """A yard for a load of `many` pieces, each `wide` bits wide."""

    def __init__(self, many, wide):
        if many < 1 or many > MOST_PIECES:
            raise NoYard("a load has 1 to 24 pieces")
        if wide < 1 or wide > MOST_BITS:
            raise NoYard("a piece has 1 to 32 bits")
        self.many = many
        self.wide = wide
        self._parcels = []
        self._left_out = []
        # Words are kept, since later parcels must not change their numbers.
        self._words = []
        self._span = Span()

    def gather(self, places, value):
        """Take a parcel; its number."""
        self._check_places(places)
        if len(value) != self.wide or not all([bit in (0, 1) for bit in value]):
            raise BadValue("the value must be as many bits as the yard is wide")
        number = len(self._parcels)
        if number >= MOST_PARCELS:
            raise Full("the yard takes 60 parcels")
        self._parcels.append((list(places), tuple(value)))
        self._left_out.append(False)
        self._judge(number)
        return number

    def came(self):
        """How many parcels came, those left out among them."""
        return len(self._parcels)

    def parcel(self, number):
        """The parcel of that number, as gathered."""
        self._check_number(number)
        places, value = self._parcels[number]
        return list(places), value

    def word(self, number):
        """The word of a parcel, and the numbers of those that tell its sum."""
        self._check_number(number)
        word, numbers = self._words[number]
        return word, list(numbers)

    def leave_out(self, number):
        """Leave a parcel out, and judge all others as if it had not come."""
        self._check_number(number)
        if self._left_out[number]:
            raise IsOut("the parcel is left out already")
        self._left_out[number] = True
        self._judge_anew()

    def take_back(self, number):
        """Take back a parcel that is out, and judge all others with it."""
        self._check_number(number)
        if not self._left_out[number]:
            raise NotOut("the parcel is not left out")
        self._left_out[number] = False
        self._judge_anew()

    def told(self, places):
        """The sum of the pieces of a set, or None where it is open."""
        left, value, _ = self._rest(places)
        if left:
            return None
        return value

    def by(self, places):
        """The numbers of kept parcels whose sum it is, or None where it is open."""
        left, _, numbers = self._rest(places)
        if left:
            return None
        return numbers

    def unseen(self, places):
        """A set that kept parcels don't see and this one does, or None where it is determined."""
        left = self._rest(places)[0]
        if not left:
            return None
        return self._span.opening(left[0])

    def pieces(self):
        """The pieces, None for each that isn't told."""
        return [self.told([place]) for place in range(self.many)]

    def missing(self):
        """How many parcels are missing."""
        return self.many - len(self._span.rows)

    def openings(self):
        """As many sets as parcels are missing, which kept parcels don't see."""
        return [self._span.opening(place) for place in range(self.many) if place not in self._span.rows]

    def _check_places(self, places):
        if not rising_within(places, self.many):
            raise BadPlaces("the places must rise, and the load must have them")

    def _check_number(self, number):
        if number < 0 or number >= len(self._parcels):
            raise NoParcel("no parcel has this number")

    def _judge(self, number):
        """Judge one parcel behind all those ahead of it."""
        if self._left_out[number]:
            self._words.append(("out", []))
        else:
            places, value = self._parcels[number]
            self._words.append(self._span.judged(places, value, number))

    def _judge_anew(self):
        self._words = []
        self._span = Span()
        for number in range(len(self._parcels)):
            self._judge(number)

    def _rest(self, places):
        """What the kept parcels leave of a set, and the value and numbers of what they told."""
        self._check_places(places)
        return self._span.rest((places, (0,) * self.wide, []))
