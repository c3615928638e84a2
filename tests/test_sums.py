import inspect
import unittest

from rainparcels import errors
from rainparcels.sums import added, odd_ones, value_of


def bits(number, wide):
    """The lowest `wide` bits of a number, the highest of them first."""
    return tuple((number >> (wide - 1 - at)) & 1 for at in range(wide))


def a_load(many, wide):
    """A load in which the pieces differ and each bit is 1 in some of them."""
    return [bits((at + 1) * 2654435761 % 4294967291, wide) for at in range(many)]


def counted(load, places):
    """The sum of the pieces, by counting the ones of each bit."""
    return tuple(sum(load[place][at] for place in places) % 2 for at in range(len(load[0])))


class OddOnes(unittest.TestCase):

    def check(self, one, other, expected):
        kept_one, kept_other = list(one), list(other)
        for a, b in ((one, other), (other, one)):
            answer = odd_ones(a, b)
            self.assertEqual(answer, expected)
            self.assertIs(type(answer), list)
            self.assertIsNot(answer, one)
            self.assertIsNot(answer, other)
            answer.append(-1)
            self.assertEqual(one, kept_one)
            self.assertEqual(other, kept_other)

    def test_both_empty(self):
        self.check([], [], [])

    def test_one_empty(self):
        self.check([], [0], [0])
        self.check([3, 8, 21], [], [3, 8, 21])

    def test_both_alike(self):
        self.check([7], [7], [])
        self.check([0, 4, 23], [0, 4, 23], [])
        same = [1, 2, 3]
        self.assertEqual(odd_ones(same, same), [])
        self.assertEqual(same, [1, 2, 3])

    def test_what_one_has_and_what_both_have(self):
        self.check([0, 2, 5], [2, 7], [0, 5, 7])
        self.check([0, 1, 2, 3], [1, 3], [0, 2])
        self.check([1, 2], [2, 3], [1, 3])
        self.check([0, 23], [0, 5, 23], [5])

    def test_one_all_below_the_other(self):
        self.check([0, 1, 2], [3, 4], [0, 1, 2, 3, 4])

    def test_one_in_the_gaps_of_the_other(self):
        self.check([0, 2, 4], [1, 3, 5], [0, 1, 2, 3, 4, 5])

    def test_numbers_far_from_each_other(self):
        self.check([0, 10 ** 20], [24, 10 ** 20 + 1], [0, 24, 10 ** 20, 10 ** 20 + 1])
        self.check([5, 10 ** 6, 10 ** 30], [10 ** 6], [5, 10 ** 30])

    def test_the_empty_one_is_not_handed_back(self):
        nothing, some = [], [1, 2]
        self.assertIsNot(odd_ones(nothing, some), some)
        self.assertIsNot(odd_ones(nothing, []), nothing)

    def test_all_pairs_of_small_sets(self):
        sets = [[place for place in range(5) if mask >> place & 1] for mask in range(32)]
        for one in sets:
            for other in sets:
                self.check(one, other, sorted(set(one) ^ set(other)))

    def test_long_lists(self):
        one = list(range(0, 300000, 2))
        other = list(range(0, 300000, 3))
        self.assertEqual(odd_ones(one, other), sorted(set(one) ^ set(other)))


class Added(unittest.TestCase):

    def check_kind(self, answer, wide):
        self.assertIs(type(answer), tuple)
        self.assertEqual(len(answer), wide)
        for bit in answer:
            self.assertIs(type(bit), int)
            self.assertIn(bit, (0, 1))

    def test_each_pair_of_bits(self):
        self.assertEqual(added((0, 0, 1, 1), (0, 1, 0, 1)), (0, 1, 1, 0))
        self.assertEqual(added((0,), (0,)), (0,))
        self.assertEqual(added((0,), (1,)), (1,))
        self.assertEqual(added((1,), (0,)), (1,))
        self.assertEqual(added((1,), (1,)), (0,))

    def test_all_widths(self):
        for wide in range(1, 33):
            one = bits(2863311530, wide)
            other = bits(3435973836, wide)
            with self.subTest(wide=wide):
                answer = added(one, other)
                self.assertEqual(answer, bits(2863311530 ^ 3435973836, wide))
                self.check_kind(answer, wide)
                self.assertEqual(added(one, one), (0,) * wide)
                self.assertEqual(added(one, (0,) * wide), one)

    def test_order_of_the_bits_stays(self):
        self.assertEqual(added((1, 0, 0, 1, 1), (0, 0, 1, 1, 0)), (1, 0, 1, 0, 1))


class ValueOf(unittest.TestCase):

    def check(self, load, places, expected):
        kept_load, kept_places = list(load), list(places)
        answer = value_of(load, places)
        self.assertEqual(answer, expected)
        self.assertIs(type(answer), tuple)
        for bit in answer:
            self.assertIs(type(bit), int)
        self.assertEqual(load, kept_load)
        self.assertEqual(places, kept_places)

    def test_worked_out(self):
        load = [(0, 1, 1), (1, 1, 0), (1, 0, 0)]
        self.check(load, [], (0, 0, 0))
        self.check(load, [0], (0, 1, 1))
        self.check(load, [1], (1, 1, 0))
        self.check(load, [2], (1, 0, 0))
        self.check(load, [0, 1], (1, 0, 1))
        self.check(load, [0, 2], (1, 1, 1))
        self.check(load, [1, 2], (0, 1, 0))
        self.check(load, [0, 1, 2], (0, 0, 1))

    def test_one_piece(self):
        self.check([(1,)], [], (0,))
        self.check([(1,)], [0], (1,))
        self.check([(0,)], [0], (0,))

    def test_all_widths(self):
        for wide in range(1, 33):
            for many in (1, 2, 3, 11, 24):
                load = a_load(many, wide)
                with self.subTest(wide=wide, many=many):
                    self.check(load, [], (0,) * wide)
                    for places in (list(range(many)), list(range(0, many, 2)), [many - 1], [0]):
                        self.check(load, places, counted(load, places))

    def test_all_sizes_all_places(self):
        for many in range(1, 25):
            with self.subTest(many=many):
                ones = [(1, 0)] * many
                self.check(ones, list(range(many)), (many % 2, 0))

    def refused(self, load, places):
        kept_load, kept_places = list(load), list(places)
        with self.assertRaises(errors.BadPlaces):
            value_of(load, places)
        self.assertEqual(load, kept_load)
        self.assertEqual(places, kept_places)

    def test_places_that_are_not_there(self):
        for many in (1, 3, 24):
            load = a_load(many, 4)
            with self.subTest(many=many):
                self.refused(load, [many])
                self.refused(load, [0, many])
                self.refused(load, list(range(many + 1)))
                self.refused(load, [10 ** 20])
                self.refused(load, [-1])
                self.refused(load, [-1, 0])
                self.refused(load, [-many])
                self.refused(load, [-many - 1])
                self.refused(load, [-2, -1])

    def test_a_place_twice(self):
        load = a_load(5, 4)
        self.refused(load, [0, 0])
        self.refused(load, [2, 2])
        self.refused(load, [4, 4])
        self.refused(load, [0, 1, 1, 3])

    def test_places_out_of_order(self):
        load = a_load(5, 4)
        self.refused(load, [1, 0])
        self.refused(load, [0, 2, 1])
        self.refused(load, [4, 3, 2, 1, 0])
        self.refused(load, [0, 3, 0])

    def test_by_which_classes_a_refusal_is_taken(self):
        for taker in (errors.BadPlaces, errors.RainError, ValueError):
            with self.assertRaises(taker):
                value_of([(0,)], [1])
        for name in ("NoYard", "BadValue", "BadText", "NoParcel", "Full", "IsOut", "NotOut"):
            with self.subTest(name=name):
                try:
                    value_of([(0,)], [1])
                except getattr(errors, name):
                    self.fail(name + " takes BadPlaces")
                except errors.BadPlaces:
                    pass


class Interface(unittest.TestCase):

    def test_each_is_defined_there_with_its_arguments(self):
        for one, names in ((odd_ones, ["one", "other"]), (added, ["one", "other"]), (value_of, ["load", "places"])):
            with self.subTest(name=one.__name__):
                self.assertEqual(one.__module__, "rainparcels.sums")
                self.assertEqual(list(inspect.signature(one).parameters), names)


if __name__ == "__main__":
    unittest.main()
