import inspect
import random
import unittest

from helping import Checks, a_load, all_sets, bits, parcels_of, sum_of_sets, sum_of_values

from rainparcels.draws import parcel
from rainparcels.quarrels import fitting, quarrel, suspects
from rainparcels.sums import value_of
from rainparcels.yard import Yard


def is_quarrel(parcels, numbers, wide):
    return not sum_of_sets(parcels, numbers) and any(sum_of_values(parcels, numbers, wide))


def quarrels_of(parcels, wide):
    """All quarrels, by trying every list of numbers."""
    return [numbers for numbers in all_sets(len(parcels)) if is_quarrel(parcels, numbers, wide)]


def suspects_of(parcels, wide):
    """The numbers that are in every quarrel, where there is one."""
    found = quarrels_of(parcels, wide)
    return [at for at in range(len(parcels)) if found and all(at in numbers for numbers in found)]


class QuarrelChecks(Checks, unittest.TestCase):

    def check_quarrel(self, parcels, wide, there_is):
        found = quarrel(parcels)
        if there_is:
            self.check_rising(found)
            self.assertTrue(found)
            self.assertLessEqual(set(found), set(range(len(parcels))))
            self.assertTrue(is_quarrel(parcels, found, wide))
        else:
            self.assertIsNone(found)

    def check_fitting(self, parcels, many, wide, there_is):
        load = fitting(parcels, many, wide)
        if there_is:
            self.assertIs(type(load), list)
            self.assertEqual(len(load), many)
            for piece in load:
                self.check_value(piece, wide)
            for places, value in parcels:
                self.assertEqual(value_of(load, places), value)
        else:
            self.assertIsNone(load)

    def check_all(self, parcels, many, wide):
        kept = [(list(places), value) for places, value in parcels]
        there_is = bool(quarrels_of(parcels, wide))
        self.check_quarrel(parcels, wide, there_is)
        self.check_fitting(parcels, many, wide, not there_is)
        answer = suspects(parcels)
        self.check_rising(answer)
        self.assertEqual(answer, suspects_of(parcels, wide))
        self.assertEqual(parcels, kept)


class Quarrel(QuarrelChecks):

    def test_no_parcels(self):
        self.assertIsNone(quarrel([]))
        self.assertEqual(suspects([]), [])
        for many, wide in ((1, 1), (3, 2), (24, 32)):
            self.check_fitting([], many, wide, True)

    def test_worked_out(self):
        parcels = [([0, 1], (1, 0)), ([1], (0, 1)), ([0], (1, 0)), ([2], (0, 0))]
        self.assertEqual(quarrel(parcels), [0, 1, 2])
        self.assertEqual(suspects(parcels), [0, 1, 2])
        self.assertIsNone(fitting(parcels, 3, 2))
        self.assertIsNone(quarrel(parcels[:2] + parcels[3:]))
        self.assertEqual(fitting(parcels[:2] + parcels[3:], 3, 2), [(1, 1), (0, 1), (0, 0)])

    def test_the_empty_set_quarrels_alone(self):
        self.assertEqual(quarrel([([], (0, 1))]), [0])
        self.assertEqual(suspects([([], (0, 1))]), [0])
        self.assertIsNone(fitting([([], (0, 1))], 1, 2))
        self.assertIsNone(quarrel([([], (0, 0))]))
        self.assertEqual(suspects([([], (0, 0))]), [])
        self.check_fitting([([], (0, 0))], 2, 2, True)
        self.check_all([([], (0,)), ([0], (1,)), ([], (1,))], 1, 1)
        self.assertEqual(suspects([([], (1,)), ([0], (1,)), ([], (1,))]), [])

    def test_the_same_set_with_two_values(self):
        for wide in (1, 2, 32):
            for at in {0, wide // 2, wide - 1}:
                value = bits(0x92F00D17, wide)
                other = tuple(bit ^ 1 if place == at else bit for place, bit in enumerate(value))
                self.assertEqual(quarrel([([1, 3], value), ([1, 3], other)]), [0, 1])
                self.assertEqual(suspects([([1, 3], value), ([1, 3], other)]), [0, 1])
                self.assertIsNone(quarrel([([1, 3], value), ([1, 3], value)]))
                self.assertEqual(suspects([([1, 3], value), ([1, 3], other), ([1, 3], value)]), [1])

    def test_two_quarrels_apart_leave_no_suspect(self):
        parcels = [([0], (0,)), ([0], (1,)), ([1], (0,)), ([1], (1,))]
        self.check_quarrel(parcels, 1, True)
        self.assertEqual(suspects(parcels), [])
        self.assertIsNone(fitting(parcels, 2, 1))

    def test_two_that_are_spoilt_alike(self):
        parcels = [([0, 1], (1,)), ([0], (1,)), ([1], (1,)), ([0, 1], (1,)), ([], (0,))]
        self.check_all(parcels, 2, 1)

    def test_all_triples_of_two_pieces(self):
        kinds = [(places, (bit,)) for places in all_sets(2) for bit in (0, 1)]
        for one in kinds:
            for two in kinds:
                for three in kinds:
                    self.check_all([one, two, three], 2, 1)

    def test_many_lists(self):
        for seed in range(120):
            chance = random.Random(seed)
            many, wide = chance.randrange(1, 6), chance.randrange(1, 4)
            sets = [[place for place in range(many) if chance.randrange(2)] for _ in range(chance.randrange(9))]
            parcels = parcels_of(a_load(many, wide, seed), sets)
            for at in range(len(parcels)):
                if chance.randrange(6) == 0:
                    parcels[at] = (parcels[at][0], bits(chance.randrange(2 ** wide), wide))
            with self.subTest(seed=seed):
                self.check_all(parcels, many, wide)


class Large(QuarrelChecks):

    def test_what_fits(self):
        for many, wide in ((24, 32), (24, 1), (1, 32), (13, 5)):
            load = a_load(many, wide, 4)
            for count in (1, 5, 24, 60, 150):
                parcels = [parcel(load, number) for number in range(count)]
                with self.subTest(many=many, wide=wide, count=count):
                    self.assertIsNone(quarrel(parcels))
                    self.assertEqual(suspects(parcels), [])
                    self.check_fitting(parcels, many, wide, True)
            self.assertEqual(fitting([parcel(load, number) for number in range(150)], many, wide), load)

    def test_one_that_is_spoilt_is_a_suspect(self):
        load = a_load(24, 32, 9)
        for spoilt in range(0, 60, 7):
            parcels = [parcel(load, number) for number in range(60)]
            places, value = parcels[spoilt]
            parcels[spoilt] = (places, value[:-1] + (value[-1] ^ 1,))
            with self.subTest(spoilt=spoilt):
                self.check_quarrel(parcels, 32, True)
                self.assertIsNone(fitting(parcels, 24, 32))
                answer = suspects(parcels)
                self.assertIn(spoilt, answer)
                for number in range(60):
                    rest = parcels[:number] + parcels[number + 1:]
                    self.assertEqual(quarrel(rest) is None, number in answer)

    def test_one_that_the_others_say_nothing_of(self):
        parcels = [([0, 1], (1,)), ([1, 2], (0,)), ([0, 2], (1,)), ([3], (1,))]
        self.assertIsNone(quarrel(parcels))
        self.assertEqual(suspects(parcels), [])
        self.check_fitting(parcels, 4, 1, True)

    def test_a_long_quarrel(self):
        parcels = [([place], (1,)) for place in range(24)] + [(list(range(24)), (1,))]
        self.assertEqual(quarrel(parcels), list(range(25)))
        self.assertEqual(suspects(parcels), list(range(25)))
        self.assertIsNone(fitting(parcels, 24, 1))
        self.check_fitting(parcels[:24], 24, 1, True)

    def test_hundreds_of_parcels(self):
        load = a_load(20, 8, 2)
        parcels = [parcel(load, number) for number in range(600)]
        parcels[333] = (parcels[333][0], parcel(a_load(20, 8, 3), 333)[1])
        self.check_quarrel(parcels, 8, True)
        self.assertEqual(suspects(parcels), [333])

    def test_a_fitting_load_for_more_pieces_than_are_seen(self):
        self.check_fitting([([1, 4], (1, 0))], 5, 2, True)
        self.check_fitting([([1, 4], (1, 0))], 24, 2, True)
        self.check_fitting([([0, 23], (1, 1)), ([5, 23], (0, 1))], 24, 2, True)

    def test_no_load_has_places_behind_its_last(self):
        self.assertIsNone(fitting([([1, 4], (1, 0))], 4, 2))
        self.assertIsNone(fitting([([0], (1,)), ([3], (1,))], 3, 1))

    def test_the_yard_says_the_same(self):
        for seed in range(30):
            chance = random.Random(seed)
            parcels = [(places, (chance.randrange(2),)) for places in
                       [[place for place in range(4) if chance.randrange(2)] for _ in range(6)]]
            yard = Yard(4, 1)
            words = [yard.word(yard.gather(places, value))[0] for places, value in parcels]
            self.assertEqual(quarrel(parcels) is not None, "against" in words)


class Own(QuarrelChecks):

    def test_answers_and_what_is_handed_in(self):
        for parcels in ([([0, 1], (1, 0)), ([1], (0, 1)), ([0], (1, 0))], [([0, 1], (1, 0)), ([1], (0, 1))]):
            kept = [(list(places), value) for places, value in parcels]
            for ask in (quarrel, suspects, lambda given: fitting(given, 2, 2)):
                first, again = ask(parcels), ask(parcels)
                self.assertEqual(first, again)
                if first is not None:
                    first.append(9)
                    self.assertEqual(ask(parcels), again)
                self.assertEqual(parcels, kept)

    def test_later_changes_of_what_was_handed_in(self):
        parcels = [([0, 1], (1, 0)), ([2], (0, 1))]
        load = fitting(parcels, 3, 2)
        copy = list(load)
        parcels[0][0].append(2)
        parcels.pop()
        self.assertEqual(load, copy)


class Interface(unittest.TestCase):

    def test_each_is_defined_there_with_its_arguments(self):
        for one, names in ((quarrel, ["parcels"]), (fitting, ["parcels", "many", "wide"]), (suspects, ["parcels"])):
            with self.subTest(name=one.__name__):
                self.assertEqual(one.__module__, "rainparcels.quarrels")
                self.assertEqual(list(inspect.signature(one).parameters), names)


if __name__ == "__main__":
    unittest.main()
