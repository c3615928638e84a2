import inspect
import random
import unittest
from copy import deepcopy

from helping import Checks, a_load, all_sets, bits, everything, filled, parcels_of, rank

from rainparcels import errors
from rainparcels.draws import parcel
from rainparcels.yard import Yard

NAMES = ["NoYard", "BadPlaces", "BadValue", "BadText", "NoParcel", "Full", "IsOut", "NotOut"]


def random_parcels(seed, many, wide, count):
    """Parcels that often repeat, quarrel, and may be empty."""
    chance = random.Random(seed)
    load = a_load(many, wide, seed)
    parcels = []
    for _ in range(count):
        places = [place for place in range(many) if chance.randrange(3) == 0]
        value = parcels_of(load, [places])[0][1]
        if chance.randrange(4) == 0:
            value = bits(chance.randrange(2 ** wide), wide)
        parcels.append((places, value))
    return parcels


class Refusals(unittest.TestCase):

    def refused(self, expected, ask, *arguments):
        """The refusal is of just that class."""
        with self.assertRaises(errors.RainError) as caught:
            ask(*arguments)
        self.assertIs(type(caught.exception), getattr(errors, expected))


class Bounds(Refusals):

    def test_within(self):
        for many in range(1, 25):
            for wide in range(1, 33):
                yard = Yard(many, wide)
                self.assertEqual((yard.many, yard.wide, yard.came()), (many, wide, 0))

    def test_outside(self):
        for many, wide in ((0, 1), (25, 1), (1, 0), (1, 33), (-1, 4), (4, -1), (0, 0), (25, 33), (24, 33),
                           (25, 32), (0, 32), (24, 0), (100, 5), (5, 100), (-24, 5), (5, -32), (10 ** 20, 1)):
            with self.subTest(many=many, wide=wide):
                self.refused("NoYard", Yard, many, wide)

    def test_a_yard_without_parcels(self):
        yard = Yard(3, 2)
        self.assertEqual(yard.came(), 0)
        self.assertEqual(yard.pieces(), [None, None, None])
        self.assertEqual(yard.missing(), 3)
        self.assertEqual(len(yard.openings()), 3)
        self.assertEqual(yard.told([]), (0, 0))
        self.assertEqual(yard.by([]), [])
        self.assertIsNone(yard.unseen([]))
        self.assertIsNone(yard.told([1]))
        self.assertIsNone(yard.by([1]))
        self.assertIn(1, yard.unseen([1]))


class Gather(Refusals):

    def test_numbers_rise_from_0(self):
        yard = Yard(4, 2)
        self.assertEqual(yard.gather([0, 1], (0, 1)), 0)
        self.assertEqual(yard.gather([0, 1], (0, 1)), 1)
        self.assertEqual(yard.gather([0, 1], (1, 1)), 2)
        self.assertEqual(yard.gather([], (0, 0)), 3)
        self.assertEqual(yard.gather([], (1, 0)), 4)
        self.assertEqual(yard.came(), 5)
        yard.leave_out(4)
        yard.leave_out(0)
        self.assertEqual(yard.came(), 5)
        self.assertEqual(yard.gather([0, 1, 2, 3], (0, 0)), 5)
        self.assertEqual(yard.came(), 6)
        self.assertEqual([yard.parcel(number) for number in range(6)],
                         [([0, 1], (0, 1)), ([0, 1], (0, 1)), ([0, 1], (1, 1)), ([], (0, 0)), ([], (1, 0)),
                          ([0, 1, 2, 3], (0, 0))])

    def test_the_60th_and_the_61st(self):
        yard = Yard(24, 1)
        for number in range(60):
            self.assertEqual(yard.gather([number % 24], (number % 2,)), number)
        before = everything(yard)
        self.refused("Full", yard.gather, [0], (0,))
        self.refused("Full", yard.gather, [], (0,))
        self.assertEqual(yard.came(), 60)
        self.assertEqual(everything(yard), before)
        self.refused("NoParcel", yard.parcel, 60)
        self.refused("NoParcel", yard.word, 60)

    def test_those_left_out_count_among_the_60(self):
        yard = Yard(2, 1)
        for number in range(60):
            self.assertEqual(yard.gather([number % 2], (1,)), number)
            if number % 3 == 0:
                yard.leave_out(number)
        self.refused("Full", yard.gather, [0], (1,))
        for number in range(60):
            if number % 3:
                yard.leave_out(number)
        self.refused("Full", yard.gather, [0], (1,))
        self.assertEqual(yard.came(), 60)

    def test_bad_places(self):
        for many in (1, 3, 24):
            yard = filled(Yard(many, 2), [([0], (0, 1)), ([0], (0, 0))])
            before = everything(yard)
            for places in ([many], [0, many], [many + 7], [-1], [-1, 0], [-many], [0, 0], [0, 0, 0], [10 ** 20],
                           list(range(many)) + [many - 1], list(range(many + 1)), [0, -1]):
                with self.subTest(many=many, places=places):
                    kept = list(places)
                    for ask in (yard.told, yard.by, yard.unseen):
                        self.refused("BadPlaces", ask, places)
                    self.refused("BadPlaces", yard.gather, places, (0, 1))
                    self.assertEqual(places, kept)
            self.assertEqual(everything(yard), before)

    def test_places_that_do_not_rise(self):
        yard = Yard(5, 1)
        for places in ([1, 0], [0, 2, 1], [4, 3, 2, 1, 0], [0, 3, 0], [2, 2], [0, 1, 1, 2], [0, 4, 4]):
            with self.subTest(places=places):
                self.refused("BadPlaces", yard.gather, places, (0,))
                self.refused("BadPlaces", yard.told, places)
                self.refused("BadPlaces", yard.by, places)
                self.refused("BadPlaces", yard.unseen, places)
        self.assertEqual(yard.came(), 0)

    def test_bad_values(self):
        for wide in (1, 2, 32):
            yard = filled(Yard(3, wide), [([0, 1], (1,) * wide)])
            before = everything(yard)
            for value in ((), (0,) * (wide - 1), (0,) * (wide + 1), (1,) * (wide + 1), (2,) * wide, (-1,) * wide,
                          (0,) * (wide - 1) + (2,), (2,) + (0,) * (wide - 1), (1,) * (wide - 1) + (-1,),
                          (10 ** 20,) + (1,) * (wide - 1), (0,) * 33):
                with self.subTest(wide=wide, value=value):
                    self.refused("BadValue", yard.gather, [0], value)
                    self.refused("BadValue", yard.gather, [], value)
            self.assertEqual(everything(yard), before)

    def test_of_several_refusals_the_first(self):
        yard = Yard(2, 2)
        self.refused("BadPlaces", yard.gather, [2], (0, 2))
        self.refused("BadPlaces", yard.gather, [1, 0], (0,))
        filled(yard, [([0], (0, 1))] * 60)
        self.refused("BadPlaces", yard.gather, [2], (0, 2))
        self.refused("BadPlaces", yard.gather, [1, 1], (0, 1))
        self.refused("BadValue", yard.gather, [1], (0, 2))
        self.refused("BadValue", yard.gather, [1], (0, 1, 0))
        self.refused("Full", yard.gather, [1], (0, 1))

    def test_numbers_that_no_parcel_has(self):
        yard = Yard(3, 1)
        asks = (yard.parcel, yard.word, yard.leave_out, yard.take_back)
        for count in range(4):
            before = everything(yard)
            for number in (-1, -2, -count, -count - 1, count, count + 1, 59, 60, 10 ** 20, -10 ** 20):
                if not 0 <= number < count:
                    for ask in asks:
                        with self.subTest(count=count, number=number, ask=ask.__name__):
                            self.refused("NoParcel", ask, number)
            self.assertEqual(everything(yard), before)
            yard.gather([0], (count % 2,))

    def test_by_which_classes_a_refusal_is_taken(self):
        def provoke(name):
            yard = filled(Yard(1, 1), [([0], (1,))] * (60 if name == "Full" else 1))
            if name == "NoYard":
                Yard(0, 1)
            elif name == "IsOut":
                yard.leave_out(0)
                yard.leave_out(0)
            elif name == "NotOut":
                yard.take_back(0)
            elif name == "NoParcel":
                yard.word(1)
            else:
                yard.gather([1] if name == "BadPlaces" else [0], (2,) if name == "BadValue" else (1,))

        for name in NAMES:
            if name != "BadText":
                for taker in (getattr(errors, name), errors.RainError, ValueError):
                    with self.subTest(name=name, taker=taker), self.assertRaises(taker):
                        provoke(name)


class Words(Checks, Refusals):

    def test_worked_out(self):
        yard = filled(Yard(4, 3), [([0, 1], (1, 0, 1)), ([1, 2], (0, 1, 1)), ([0, 2], (1, 1, 0)),
                                   ([0, 2], (1, 1, 1)), ([2], (0, 0, 1)), ([0, 1, 2], (1, 0, 0)), ([3], (0, 0, 0))])
        self.assertEqual([yard.word(number)[0] for number in range(7)],
                         ["new", "new", "known", "against", "new", "known", "new"])
        self.assertEqual(yard.word(0), ("new", []))
        self.assertEqual(yard.word(2), ("known", [0, 1]))
        self.assertEqual(yard.word(3)[0], "against")
        self.assertIn(yard.word(3)[1], ([0, 1], [2]))
        self.assertIn(yard.word(5)[1], ([0, 4], [1, 2, 4]))

    def test_the_empty_set(self):
        parcels = [([], (0, 0)), ([], (0, 1)), ([], (0, 0)), ([0], (1, 1)), ([0], (1, 1)), ([], (1, 1))]
        yard = filled(Yard(2, 2), parcels)
        self.assertEqual([yard.word(number)[0] for number in range(6)],
                         ["known", "against", "known", "new", "known", "against"])
        self.assertEqual(yard.word(0), ("known", []))
        self.check_all(yard, parcels)
        self.assertEqual(yard.missing(), 1)

    def test_one_that_is_against_is_not_kept(self):
        yard = filled(Yard(2, 1), [([0], (0,)), ([0], (1,)), ([0], (1,)), ([0], (0,))])
        self.assertEqual([yard.word(number)[0] for number in range(4)], ["new", "against", "against", "known"])
        self.assertEqual(yard.told([0]), (0,))
        self.assertNotIn(1, yard.word(3)[1])
        self.assertNotIn(2, yard.word(3)[1])
        self.check_by([([0], (0,))] * 4, [0, 3], [0], yard.by([0]))

    def test_only_those_ahead_judge(self):
        yard = filled(Yard(2, 1), [([0, 1], (1,)), ([0], (0,)), ([1], (1,))])
        self.assertEqual([yard.word(number)[0] for number in range(3)], ["new", "new", "known"])
        self.assertEqual(yard.word(2), ("known", [0, 1]))

    def test_one_bit_of_many_speaks_against(self):
        for wide in (1, 2, 31, 32):
            for at in {0, wide // 2, wide - 1}:
                value = bits(0xABCDEF01, wide)
                other = tuple(bit ^ 1 if place == at else bit for place, bit in enumerate(value))
                yard = filled(Yard(3, wide), [([0, 2], value), ([0, 2], value), ([0, 2], other)])
                self.assertEqual([yard.word(number) for number in range(3)],
                                 [("new", []), ("known", [0]), yard.word(2)])
                self.assertEqual(yard.word(2)[0], "against")
                self.assertIn(yard.word(2)[1], ([0], [1]))

    def test_all_pairs_and_triples_of_two_pieces(self):
        kinds = [(places, (bit,)) for places in all_sets(2) for bit in (0, 1)]
        for one in kinds:
            for two in kinds:
                for three in kinds:
                    parcels = [one, two, three]
                    self.check_all(filled(Yard(2, 1), parcels), parcels)

    def test_many_yards(self):
        for seed in range(60):
            many, wide = seed % 5 + 1, seed % 4 + 1
            parcels = random_parcels(seed, many, wide, seed % 13)
            with self.subTest(seed=seed):
                self.check_all(filled(Yard(many, wide), parcels), parcels)

    def test_words_stay_while_only_parcels_come(self):
        for seed in range(8):
            parcels = random_parcels(seed, 12, 3, 60)
            yard, told = Yard(12, 3), []
            for number, (places, value) in enumerate(parcels):
                yard.gather(places, value)
                told.append(deepcopy(yard.word(number)))
                self.assertEqual([yard.word(at) for at in range(number + 1)], told)

    def test_60_of_24_pieces_of_32_bits(self):
        load = a_load(24, 32)
        for first in (0, 60, 1000):
            parcels = [parcel(load, number) for number in range(first, first + 60)]
            yard = filled(Yard(24, 32), parcels)
            kept, sets = [], []
            for number, (places, _) in enumerate(parcels):
                word = "new" if rank(sets + [places]) > rank(sets) else "known"
                self.check_word(yard, parcels, kept, number, word)
                kept.append(number)
                sets.append(places)
            for place in range(24):
                self.check_sum(yard, parcels, kept, [place], True)
            self.assertEqual(yard.pieces(), load)
            self.assertEqual(yard.missing(), 0)
            self.assertEqual(yard.openings(), [])


class LeavingOut(Checks, Refusals):

    def test_worked_out(self):
        yard = filled(Yard(2, 1), [([0], (0,)), ([0], (1,)), ([0], (1,))])
        self.assertIsNone(yard.leave_out(0))
        self.assertEqual([yard.word(number) for number in range(3)], [("out", []), ("new", []), ("known", [1])])
        self.assertEqual(yard.told([0]), (1,))
        self.assertEqual(yard.parcel(0), ([0], (0,)))
        self.assertIsNone(yard.take_back(0))
        self.assertEqual([yard.word(number) for number in range(3)],
                         [("new", []), ("against", [0]), ("against", [0])])
        self.assertEqual(yard.told([0]), (0,))

    def test_one_behind_is_judged_by_what_is_ahead_only(self):
        yard = filled(Yard(2, 1), [([0, 1], (1,)), ([0], (0,)), ([1], (1,))], out=[1])
        self.assertEqual([yard.word(number) for number in range(3)], [("new", []), ("out", []), ("new", [])])
        yard.take_back(1)
        self.assertEqual([yard.word(number) for number in range(3)], [("new", []), ("new", []), ("known", [0, 1])])

    def test_one_taken_back_comes_in_its_old_place(self):
        yard = filled(Yard(1, 1), [([0], (0,)), ([0], (1,))], out=[0])
        yard.gather([0], (0,))
        self.assertEqual([yard.word(number)[0] for number in range(3)], ["out", "new", "against"])
        yard.take_back(0)
        self.assertEqual([yard.word(number)[0] for number in range(3)], ["new", "against", "known"])

    def test_leaving_out_one_that_is_against_or_known(self):
        parcels = [([0, 1], (1,)), ([0, 1], (0,)), ([0, 1], (1,)), ([1], (0,))]
        yard = filled(Yard(2, 1), parcels, out=[1, 2])
        self.check_all(yard, parcels, [1, 2])
        self.assertEqual(yard.word(1), ("out", []))
        self.assertEqual(yard.word(2), ("out", []))
        self.assertEqual(yard.pieces(), [(1,), (0,)])

    def test_all_out(self):
        parcels = random_parcels(5, 4, 2, 9)
        yard = filled(Yard(4, 2), parcels, out=range(9))
        self.check_all(yard, parcels, range(9))
        self.assertEqual([yard.word(number) for number in range(9)], [("out", [])] * 9)
        self.assertEqual(yard.missing(), 4)
        self.assertEqual(yard.came(), 9)

    def test_twice_out_and_twice_back(self):
        yard = filled(Yard(2, 1), [([0], (0,)), ([1], (1,)), ([0], (1,))])
        before = everything(yard)
        for number in range(3):
            self.refused("NotOut", yard.take_back, number)
        self.assertEqual(everything(yard), before)
        yard.leave_out(1)
        before = everything(yard)
        self.refused("IsOut", yard.leave_out, 1)
        self.refused("NotOut", yard.take_back, 0)
        self.assertEqual(everything(yard), before)
        yard.take_back(1)
        self.refused("NotOut", yard.take_back, 1)
        yard.leave_out(1)
        self.refused("IsOut", yard.leave_out, 1)

    def test_numbers_below_0_leave_nothing_out(self):
        yard = filled(Yard(2, 1), [([0], (0,)), ([1], (1,))])
        for number in (-1, -2, 2):
            self.refused("NoParcel", yard.leave_out, number)
            self.refused("NoParcel", yard.take_back, number)
        self.assertEqual(yard.pieces(), [(0,), (1,)])
        yard.leave_out(1)
        self.refused("NoParcel", yard.take_back, -1)
        self.refused("NoParcel", yard.leave_out, -1)
        self.assertEqual(yard.word(1), ("out", []))

    def test_long_runs(self):
        for seed in range(12):
            chance = random.Random(seed)
            many, wide = seed % 4 + 1, seed % 3 + 1
            parcels = random_parcels(100 + seed, many, wide, 14)
            yard, out, came = Yard(many, wide), [], 0
            for _ in range(50):
                at = chance.randrange(14)
                if came < 14 and chance.randrange(3) == 0:
                    self.assertEqual(yard.gather(*parcels[came]), came)
                    came += 1
                elif at >= came:
                    self.refused("NoParcel", yard.leave_out, at)
                elif at in out:
                    yard.take_back(at)
                    out.remove(at)
                else:
                    yard.leave_out(at)
                    out.append(at)
                with self.subTest(seed=seed):
                    self.check_all(yard, parcels[:came], out)

    def test_the_same_as_if_it_had_not_come(self):
        parcels = random_parcels(7, 5, 2, 12)
        for number in range(12):
            yard = filled(Yard(5, 2), parcels, out=[number])
            other = filled(Yard(5, 2), parcels[:number] + parcels[number + 1:])
            self.assertEqual([yard.word(at)[0] for at in range(12) if at != number],
                             [other.word(at)[0] for at in range(11)])
            for places in all_sets(5):
                self.assertEqual(yard.told(places), other.told(places))
            self.assertEqual(yard.pieces(), other.pieces())
            self.assertEqual(yard.missing(), other.missing())


class Sums(Checks, Refusals):

    def test_worked_out(self):
        parcels = [([0, 1], (1, 0)), ([1, 2], (1, 1))]
        yard = filled(Yard(4, 2), parcels)
        self.assertEqual(yard.told([0, 2]), (0, 1))
        self.assertEqual(yard.by([0, 2]), [0, 1])
        self.assertIsNone(yard.unseen([0, 2]))
        self.assertEqual(yard.told([0, 1]), (1, 0))
        self.assertEqual(yard.by([0, 1]), [0])
        self.assertIsNone(yard.told([0]))
        self.assertIsNone(yard.by([0]))
        self.assertIn(yard.unseen([0]), ([0, 1, 2], [0, 1, 2, 3]))
        self.assertIn(yard.unseen([3]), ([3], [0, 1, 2, 3]))
        self.assertIn(yard.unseen([0, 3]), ([3], [0, 1, 2]))
        self.check_all(yard, parcels)

    def test_the_empty_set_is_always_determined(self):
        for many, wide in ((1, 1), (24, 32), (3, 2)):
            yard = Yard(many, wide)
            for _ in range(2):
                self.assertEqual(yard.told([]), (0,) * wide)
                self.check_by([([0], (1,) * wide)], [0], [], yard.by([]))
                self.assertIsNone(yard.unseen([]))
                yard.gather([0], (1,) * wide)

    def test_one_piece_of_one_bit(self):
        for bit in (0, 1):
            yard = Yard(1, 1)
            self.assertEqual((yard.told([0]), yard.by([0]), yard.unseen([0])), (None, None, [0]))
            self.assertEqual(yard.openings(), [[0]])
            yard.gather([0], (bit,))
            self.assertEqual((yard.told([0]), yard.by([0]), yard.unseen([0])), ((bit,), [0], None))
            self.assertEqual((yard.pieces(), yard.missing(), yard.openings()), ([(bit,)], 0, []))

    def test_24_pieces_as_they_come(self):
        load = a_load(24, 32, 3)
        parcels = [parcel(load, number) for number in range(60)]
        yard = Yard(24, 32)
        asked = [[place] for place in range(24)] + [[], list(range(24)), [0, 23], [3, 5, 7], list(range(0, 24, 2))]
        for number, (places, value) in enumerate(parcels[:40]):
            yard.gather(places, value)
            sets = [its for its, _ in parcels[:number + 1]]
            news = rank(sets)
            for places in asked:
                self.check_sum(yard, parcels, range(number + 1), places, rank(sets + [places]) == news)
            self.check_pieces(yard, parcels, range(number + 1), news)
            for place, piece in enumerate(yard.pieces()):
                self.assertIn(piece, (None, load[place]))

    def test_a_shown_set_turned_changes_the_asked_sum_alone(self):
        load = a_load(6, 1, 2)
        sets = [[0, 1, 2], [2, 3], [1, 5]]
        yard = filled(Yard(6, 1), parcels_of(load, sets))
        for places in all_sets(6):
            shown = yard.unseen(places)
            if shown is not None:
                turned = [(piece[0] ^ 1,) if at in shown else piece for at, piece in enumerate(load)]
                self.assertEqual(parcels_of(turned, sets), parcels_of(load, sets))
                self.assertNotEqual(parcels_of(turned, [places]), parcels_of(load, [places]))


class Pieces(Checks, Refusals):

    def test_worked_out(self):
        yard = filled(Yard(3, 2), [([0, 1], (1, 0)), ([1], (1, 1)), ([0, 1], (0, 0))])
        self.assertEqual(yard.pieces(), [(0, 1), (1, 1), None])
        self.assertEqual(yard.missing(), 1)
        self.assertEqual(yard.openings(), [[2]])

    def test_openings_of_one_parcel(self):
        yard = filled(Yard(3, 1), [([0, 1, 2], (1,))])
        self.assertEqual(yard.missing(), 2)
        openings = yard.openings()
        self.assertEqual(len(openings), 2)
        self.assertNotEqual(openings[0], openings[1])
        for opening in openings:
            self.assertIn(opening, ([0, 1], [0, 2], [1, 2]))
        self.assertEqual(yard.pieces(), [None, None, None])

    def test_no_piece_alone_though_only_one_is_missing(self):
        yard = filled(Yard(24, 1), [([at, at + 1], (1,)) for at in range(23)])
        self.assertEqual(yard.pieces(), [None] * 24)
        self.assertEqual(yard.missing(), 1)
        self.assertEqual(yard.openings(), [list(range(24))])
        yard.gather([11], (0,))
        self.assertEqual(yard.pieces(), [(place % 2 ^ 1,) for place in range(24)])
        self.assertEqual(yard.missing(), 0)
        self.assertEqual(yard.openings(), [])

    def test_known_and_against_and_out_leave_as_many_missing(self):
        yard = filled(Yard(3, 1), [([0], (1,)), ([0], (1,)), ([0], (0,)), ([], (0,)), ([1], (1,))], out=[4])
        self.assertEqual(yard.missing(), 2)
        self.assertEqual(len(yard.openings()), 2)


class Own(Checks, Refusals):

    def test_what_is_handed_in(self):
        places, value = [0, 2], (1, 0)
        yard = Yard(3, 2)
        yard.gather(places, value)
        asked = [0, 2]
        yard.told(asked), yard.by(asked), yard.unseen(asked)
        self.assertEqual((places, value, asked), ([0, 2], (1, 0), [0, 2]))
        before = everything(yard)
        places.append(7)
        places[0] = 1
        del asked[:]
        self.assertEqual(everything(yard), before)
        self.assertEqual(yard.parcel(0), ([0, 2], (1, 0)))
        self.assertEqual(yard.told([0, 2]), (1, 0))
        yard.leave_out(0)
        yard.take_back(0)
        self.assertEqual(everything(yard), before)

    def test_one_list_handed_in_again_and_again(self):
        yard, places = Yard(4, 1), []
        for place in range(4):
            places.append(place)
            yard.gather(places, (1,))
        self.assertEqual([yard.parcel(number)[0] for number in range(4)], [[0], [0, 1], [0, 1, 2], [0, 1, 2, 3]])
        self.assertEqual(yard.pieces(), [(1,), (0,), (0,), (0,)])

    def answers(self, yard):
        """Every list that the yard tells, by one ask each."""
        found = [yard.parcel(number)[0] for number in range(yard.came())]
        found += [yard.word(number)[1] for number in range(yard.came())]
        for places in all_sets(yard.many):
            found += [told for told in (yard.by(places), yard.unseen(places)) if told is not None]
        return found + [yard.pieces(), yard.openings()] + yard.openings()

    def test_what_is_told(self):
        for seed in range(6):
            parcels = random_parcels(seed, 4, 2, 7)
            yard = filled(Yard(4, 2), parcels, out=[3])
            before = everything(yard)
            for told in self.answers(yard):
                told.append(99)
                told[0] = 98
                self.assertEqual(everything(yard), before)
            yard.gather([0, 1], (0, 1))
            yard.leave_out(1)
            yard.take_back(3)
            self.check_all(yard, parcels + [([0, 1], (0, 1))], [1])

    def test_what_was_told_stays(self):
        for seed in range(6):
            parcels = random_parcels(seed, 4, 2, 12)
            yard = filled(Yard(4, 2), parcels[:4])
            told = self.answers(yard)
            copies = deepcopy(told)
            for places, value in parcels[4:]:
                yard.gather(places, value)
                self.assertEqual(told, copies)
            for number in range(12):
                yard.leave_out(number)
                everything(yard)
                self.assertEqual(told, copies)
            yard.take_back(2)
            self.assertEqual(told, copies)

    def test_asked_again(self):
        for seed in range(6):
            parcels = random_parcels(seed, 5, 2, 9)
            yard = filled(Yard(5, 2), parcels, out=[0, 4])
            first = (everything(yard), deepcopy(self.answers(yard)))
            self.assertEqual((everything(yard), self.answers(yard)), first)
            self.refused("BadPlaces", yard.told, [5])
            self.refused("BadPlaces", yard.gather, [5], (0, 0))
            self.refused("IsOut", yard.leave_out, 4)
            self.assertEqual((everything(yard), self.answers(yard)), first)


class Interface(unittest.TestCase):

    METHODS = {
        "__init__": ["self", "many", "wide"], "gather": ["self", "places", "value"], "came": ["self"],
        "parcel": ["self", "number"], "word": ["self", "number"], "leave_out": ["self", "number"],
        "take_back": ["self", "number"], "told": ["self", "places"], "by": ["self", "places"],
        "unseen": ["self", "places"], "pieces": ["self"], "missing": ["self"], "openings": ["self"],
    }

    def test_each_method_is_in_the_class_itself_with_its_arguments(self):
        self.assertEqual(Yard.__module__, "rainparcels.yard")
        for name, arguments in self.METHODS.items():
            with self.subTest(name=name):
                self.assertIn(name, vars(Yard))
                self.assertEqual(list(inspect.signature(vars(Yard)[name]).parameters), arguments)

    def test_by_keywords(self):
        yard = Yard(wide=2, many=3)
        self.assertEqual((yard.many, yard.wide), (3, 2))
        self.assertEqual(yard.gather(value=(0, 1), places=[1]), 0)
        self.assertEqual(yard.told(places=[1]), (0, 1))
        self.assertEqual(yard.word(number=0), ("new", []))


if __name__ == "__main__":
    unittest.main()
