"""What several tests need: sums worked out by counting, and a check of all that a yard tells."""

from copy import deepcopy


def bits(number, wide):
    """The lowest `wide` bits of a number, the highest of them first."""
    return tuple((number >> (wide - 1 - at)) & 1 for at in range(wide))


def a_load(many, wide, seed=1):
    """A load that looks like none in particular; the seed tells which one."""
    return [bits(pow(7, 1000 * seed + at + 1, 4294967291), wide) for at in range(many)]


def all_sets(many):
    return [[place for place in range(many) if mask >> place & 1] for mask in range(2 ** many)]


def in_common(one, other):
    return len(set(one) & set(other))


def counted(rows, places, wide):
    """The sum of the rows at these places, by counting the ones of each bit."""
    return tuple(sum(rows[place][at] for place in places) % 2 for at in range(wide))


def parcels_of(load, sets):
    return [(list(places), counted(load, places, len(load[0]))) for places in sets]


def sum_of_sets(parcels, numbers):
    seen = [place for number in numbers for place in parcels[number][0]]
    return [place for place in sorted(set(seen)) if seen.count(place) % 2]


def sum_of_values(parcels, numbers, wide):
    return counted([value for _, value in parcels], numbers, wide)


def rank(sets):
    """How many of the sets are no sum of those ahead of them."""
    highest = {}
    for places in sets:
        mask = sum(1 << place for place in places)
        while mask and mask.bit_length() in highest:
            mask ^= highest[mask.bit_length()]
        if mask:
            highest[mask.bit_length()] = mask
    return len(highest)


def judged(parcels, wide, out=()):
    """The words by trying every sum: the words, the kept numbers, and the value of each sum."""
    words, kept, sums = [], [], {frozenset(): (0,) * wide}
    for number, (places, value) in enumerate(parcels):
        if number in out:
            words.append("out")
        elif frozenset(places) not in sums:
            words.append("new")
            for its, worth in list(sums.items()):
                sums[its ^ frozenset(places)] = tuple(a ^ b for a, b in zip(worth, value))
        else:
            words.append("known" if sums[frozenset(places)] == value else "against")
        if words[-1] in ("new", "known"):
            kept.append(number)
    return words, kept, sums


def filled(yard, parcels, out=()):
    """The yard, with the parcels gathered and some left out."""
    for places, value in parcels:
        yard.gather(places, value)
    for number in out:
        yard.leave_out(number)
    return yard


def everything(yard):
    """All that the yard tells but its sums, and these for some sets.

    It is a copy: what is done to the yard's own lists must show when it is taken again.
    """
    numbers = range(yard.came())
    some = [[]] + [[at] for at in range(yard.many)] + [list(range(at)) for at in range(2, yard.many + 1)]
    return deepcopy(([yard.parcel(n) for n in numbers], [yard.word(n) for n in numbers],
                     [(yard.told(one), yard.by(one), yard.unseen(one)) for one in some],
                     yard.pieces(), yard.missing(), yard.openings(), yard.many, yard.wide))


class Checks:
    """Checks of whatever a yard of few pieces tells, for a TestCase."""

    def check_rising(self, numbers):
        self.assertIs(type(numbers), list)
        self.assertEqual(numbers, sorted(set(numbers)))
        for number in numbers:
            self.assertIs(type(number), int)

    def check_value(self, value, wide):
        self.assertIs(type(value), tuple)
        self.assertEqual(len(value), wide)
        for bit in value:
            self.assertIs(type(bit), int)
            self.assertIn(bit, (0, 1))

    def check_by(self, parcels, kept, places, numbers):
        """The numbers are those of kept parcels, and the sum of their sets is this set."""
        self.check_rising(numbers)
        self.assertLessEqual(set(numbers), set(kept))
        self.assertEqual(sum_of_sets(parcels, numbers), places)

    def check_sum(self, yard, parcels, kept, places, determined):
        value, numbers, shown = yard.told(places), yard.by(places), yard.unseen(places)
        if determined:
            self.check_by(parcels, kept, places, numbers)
            self.check_value(value, yard.wide)
            self.assertEqual(value, sum_of_values(parcels, numbers, yard.wide))
            self.assertIsNone(shown)
        else:
            self.assertIsNone(value)
            self.assertIsNone(numbers)
            self.check_rising(shown)
            self.assertLessEqual(set(shown), set(range(yard.many)))
            self.assertEqual(in_common(shown, places) % 2, 1)
            self.check_unseen(parcels, kept, shown)

    def check_unseen(self, parcels, kept, shown):
        for number in kept:
            self.assertEqual(in_common(shown, parcels[number][0]) % 2, 0)

    def check_word(self, yard, parcels, kept, number, word):
        places, value = parcels[number]
        answer = yard.word(number)
        self.assertIs(type(answer), tuple)
        told, numbers = answer
        self.assertEqual(told, word)
        if word in ("new", "out"):
            self.assertEqual(numbers, [])
            self.assertIs(type(numbers), list)
        else:
            self.check_by(parcels, [ahead for ahead in kept if ahead < number], places, numbers)
            same = sum_of_values(parcels, numbers, yard.wide) == value
            self.assertEqual(same, word == "known")

    def check_pieces(self, yard, parcels, kept, news):
        pieces = yard.pieces()
        self.assertIs(type(pieces), list)
        self.assertEqual(pieces, [yard.told([place]) for place in range(yard.many)])
        self.assertEqual(yard.missing(), yard.many - news)
        self.assertEqual(yard.missing() == 0, None not in pieces)
        openings = yard.openings()
        self.assertIs(type(openings), list)
        self.assertEqual(len(openings), yard.many - news)
        self.assertEqual(rank(openings), len(openings))
        for opening in openings:
            self.check_rising(opening)
            self.assertLessEqual(set(opening), set(range(yard.many)))
            self.check_unseen(parcels, kept, opening)

    def check_all(self, yard, parcels, out=()):
        """All that the yard tells, held to what trying every sum tells."""
        words, kept, sums = judged(parcels, yard.wide, out)
        self.assertEqual(yard.came(), len(parcels))
        for number, word in enumerate(words):
            self.assertEqual(yard.parcel(number), parcels[number])
            self.check_word(yard, parcels, kept, number, word)
        for places in all_sets(yard.many):
            self.check_sum(yard, parcels, kept, places, frozenset(places) in sums)
            self.assertEqual(yard.told(places), sums.get(frozenset(places)))
        self.check_pieces(yard, parcels, kept, words.count("new"))
