"""What holds over the whole program."""

import itertools
import random
import unittest

from helping import Checks, a_load, all_sets, counted, everything, filled, parcels_of, rank

from rainparcels.draws import parcel
from rainparcels.notes import read, shown
from rainparcels.quarrels import fitting, quarrel, suspects
from rainparcels.yard import Yard


class Orders(Checks, unittest.TestCase):

    def test_every_order_of_five_parcels(self):
        load = a_load(4, 2, 6)
        parcels = parcels_of(load, [[0, 1], [1, 2], [0, 2], [0, 1, 2], []])
        for order in itertools.permutations(parcels):
            yard = filled(Yard(4, 2), order)
            self.assertEqual(yard.pieces(), load[:3] + [None])
            self.assertEqual(yard.missing(), 1)
            self.assertEqual(yard.openings(), [[3]])
            for places in all_sets(4):
                self.assertEqual(yard.told(places), None if 3 in places else counted(load, places, 2))
            self.assertEqual([yard.word(number)[0] for number in range(5)].count("new"), 3)

    def test_orders_of_drawn_parcels(self):
        load = a_load(24, 32, 8)
        parcels = [parcel(load, number) for number in range(21)]
        seen = rank([places for places, _ in parcels])
        asked = [[place] for place in range(24)] + [places for places, _ in parcels] + [[0, 1], list(range(24))]
        told = None
        for seed in range(6):
            order = list(parcels)
            random.Random(seed).shuffle(order)
            yard = filled(Yard(24, 32), order)
            answers = (yard.pieces(), yard.missing(), [yard.told(places) for places in asked])
            told = told or answers
            self.assertEqual(answers, told)
            for places, value in zip(asked, answers[2]):
                self.assertIn(value, (None, counted(load, places, 32)))
            self.assertEqual(yard.missing(), 24 - seen)

    def test_all_pieces_just_where_none_is_missing(self):
        for many in range(1, 25):
            load = a_load(many, 3, many)
            yard = Yard(many, 3)
            for number in range(60):
                self.assertEqual(yard.pieces() == load, yard.missing() == 0)
                self.assertEqual(None in yard.pieces(), yard.missing() > 0)
                self.assertEqual(len(yard.openings()), yard.missing())
                yard.gather(*parcel(load, number))
            self.assertEqual(yard.pieces(), load)


class Apart(unittest.TestCase):

    def test_two_yards(self):
        one, other = Yard(3, 2), Yard(3, 2)
        one.gather([0], (1, 1))
        empty = everything(Yard(3, 2))
        self.assertEqual(everything(other), empty)
        before = everything(one)
        places = [0]
        other.gather(places, (0, 1))
        other.gather(places, (1, 1))
        other.leave_out(0)
        self.assertEqual(everything(one), before)
        one.leave_out(0)
        self.assertEqual(other.told([0]), (1, 1))
        self.assertEqual(everything(Yard(3, 2)), empty)

    def test_one_list_in_two_yards(self):
        one, other, places = Yard(3, 1), Yard(3, 1), [0, 1]
        one.gather(places, (1,))
        other.gather(places, (1,))
        one.parcel(0)[0].append(2)
        one.by(places).append(5)
        self.assertEqual(other.parcel(0), ([0, 1], (1,)))
        self.assertEqual((one.by(places), other.by(places)), ([0], [0]))


class Together(unittest.TestCase):

    def test_a_load_goes_through(self):
        load = a_load(10, 6, 5)
        texts = [shown(*parcel(load, number)) for number in range(30)]
        parcels = [read(text, 10, 6) for text in texts]
        yard = filled(Yard(10, 6), parcels)
        self.assertEqual(yard.pieces(), load)
        self.assertEqual(fitting(parcels, 10, 6), load)
        self.assertIsNone(quarrel(parcels))

    def test_a_spoilt_parcel_is_found_and_left_out(self):
        load = a_load(8, 4, 5)
        for spoilt in range(20):
            parcels = [parcel(load, number) for number in range(30)]
            places, value = parcels[spoilt]
            parcels[spoilt] = (places, (value[0] ^ 1,) + value[1:])
            self.assertEqual(suspects(parcels), [spoilt])
            yard = filled(Yard(8, 4), parcels, out=[spoilt])
            self.assertEqual(yard.pieces(), load)
            self.assertNotIn("against", [yard.word(number)[0] for number in range(30)])


if __name__ == "__main__":
    unittest.main()
