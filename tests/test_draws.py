import inspect
import unittest

from rainparcels.draws import drawn, parcel

# For each number: x at the start, then x behind the step of each place from 0 to 23.
STEPS = {
    0: [48271,
        15864, 10208, 44767, 15212, 26845, 47339, 11501, 10668, 13730, 46769, 34288, 15731,
        233, 17549, 5509, 20027, 60285, 64933, 20311, 16048, 24008, 31175, 44404, 53524],
    1: [31005,
        31654, 14792, 60882, 44171, 36049, 16732, 9771, 11992, 47493, 23051, 24937, 35313,
        27069, 64139, 26298, 6314, 14865, 820, 61574, 30534, 61866, 52434, 404, 30374],
    2: [13739,
        47444, 19376, 11460, 7593, 45253, 51662, 8041, 13316, 15719, 64870, 15586, 54895,
        53905, 45192, 47087, 58138, 34982, 2244, 37300, 45020, 34187, 8156, 21941, 7224],
    10 ** 20: [63324,
               30710, 9529, 59379, 62520, 35947, 9082, 25854, 38551, 7771, 58603, 4320, 61926,
               56934, 10219, 45592, 11550, 14343, 27207, 8952, 16104, 28208, 18490, 10547, 4655],
}

# The places of 0 to 23 behind whose step x leaves 0 or 1 when it is divided by 5.
DRAWN_OF_24 = {
    0: [4, 6, 8, 11, 16, 18, 21],
    1: [3, 6, 9, 16, 17, 20],
    2: [1, 2, 6, 7, 9, 10, 11, 12, 18, 19, 21, 22],
    10 ** 20: [0, 3, 7, 8, 10, 11, 15, 21, 23],
}


class Drawn(unittest.TestCase):

    def test_the_table_is_worked_out_as_told(self):
        for number, (x, *later) in STEPS.items():
            self.assertEqual(x, 48271 * (number + 1) % 65537)
            for worth in later:
                x = (75 * x + 74) % 65537
                self.assertEqual(x, worth)
            self.assertEqual([at for at in range(24) if later[at] % 5 < 2], DRAWN_OF_24[number])

    def test_24_pieces(self):
        for number, places in DRAWN_OF_24.items():
            with self.subTest(number=number):
                self.assertEqual(drawn(number, 24), places)

    def test_all_sizes(self):
        for number, places in DRAWN_OF_24.items():
            for many in range(1, 25):
                expected = [place for place in places if place < many] or [number % many]
                with self.subTest(number=number, many=many):
                    self.assertEqual(drawn(number, many), expected)

    def test_sizes_written_out(self):
        self.assertEqual(drawn(0, 5), [4])
        self.assertEqual(drawn(0, 9), [4, 6, 8])
        self.assertEqual(drawn(1, 7), [3, 6])
        self.assertEqual(drawn(2, 3), [1, 2])
        self.assertEqual(drawn(10 ** 20, 1), [0])
        self.assertEqual(drawn(10 ** 20, 4), [0, 3])

    def test_no_place_by_the_steps(self):
        self.assertEqual(drawn(0, 1), [0])
        self.assertEqual(drawn(0, 4), [0])
        self.assertEqual(drawn(1, 2), [1])
        self.assertEqual(drawn(1, 3), [1])
        self.assertEqual(drawn(14, 3), [2])
        self.assertEqual(drawn(48, 5), [3])
        self.assertEqual(drawn(202, 8), [2])
        self.assertEqual(drawn(1342, 12), [10])
        self.assertEqual(drawn(19243, 16), [11])

    def test_no_place_by_the_steps_at_a_large_number(self):
        # The same steps as number 14 has, but another rest.
        self.assertEqual(drawn(14 + 65537 * 10 ** 15, 3), [1])

    def test_x_may_begin_at_0(self):
        # 74, 5624, 28652, 51790, 17641, 12409, 13231, ..
        self.assertEqual(drawn(65536, 8), [3, 4, 6])
        self.assertEqual(drawn(65536, 3), [1])

    def test_numbers_one_round_apart(self):
        for many in (8, 24):
            self.assertEqual(drawn(65537 + 2, many), drawn(2, many))

    def test_many_numbers(self):
        for number in list(range(200)) + [65535, 10 ** 9, 10 ** 20 + 7, 10 ** 40]:
            for many in (1, 2, 3, 5, 13, 24):
                x = 48271 * (number + 1) % 65537
                expected = []
                for place in range(many):
                    x = (75 * x + 74) % 65537
                    if x % 5 in (0, 1):
                        expected.append(place)
                with self.subTest(number=number, many=many):
                    self.assertEqual(drawn(number, many), expected or [number % many])

    def test_kind(self):
        for number in (0, 1, 48, 10 ** 20):
            for many in range(1, 25):
                answer = drawn(number, many)
                self.assertIs(type(answer), list)
                self.assertTrue(answer)
                self.assertEqual(answer, sorted(set(answer)))
                for place in answer:
                    self.assertIs(type(place), int)
                    self.assertIn(place, range(many))

    def test_the_answer_is_the_askers_own(self):
        first = drawn(2, 3)
        first.append(9)
        self.assertEqual(drawn(2, 3), [1, 2])


class Parcel(unittest.TestCase):

    def test_worked_out(self):
        load = [(0, 1, 1), (1, 1, 0), (1, 0, 0)]
        self.assertEqual(parcel(load, 0), ([0], (0, 1, 1)))
        self.assertEqual(parcel(load, 1), ([1], (1, 1, 0)))
        self.assertEqual(parcel(load, 2), ([1, 2], (0, 1, 0)))
        self.assertEqual(parcel(load, 14), ([2], (1, 0, 0)))
        self.assertEqual(parcel(load, 10 ** 20), ([0], (0, 1, 1)))

    def test_one_piece(self):
        for number in (0, 1, 2, 10 ** 20):
            self.assertEqual(parcel([(1,)], number), ([0], (1,)))

    def test_24_pieces_of_32_bits(self):
        # Piece k has its one at bit k alone, so that the value tells the set.
        load = [tuple(1 if at == place else 0 for at in range(32)) for place in range(24)]
        for number, places in DRAWN_OF_24.items():
            value = tuple(1 if at in places else 0 for at in range(32))
            self.assertEqual(parcel(load, number), (places, value))

    def test_kinds(self):
        answer = parcel([(0, 1), (1, 1)], 10 ** 20)
        self.assertIs(type(answer), tuple)
        self.assertEqual(len(answer), 2)
        self.assertIs(type(answer[0]), list)
        self.assertIs(type(answer[1]), tuple)
        for bit in answer[1]:
            self.assertIs(type(bit), int)

    def test_the_load_stays(self):
        load = [(0, 1, 1), (1, 1, 0), (1, 0, 0)]
        places, _ = parcel(load, 2)
        places.append(7)
        self.assertEqual(load, [(0, 1, 1), (1, 1, 0), (1, 0, 0)])
        self.assertEqual(parcel(load, 2), ([1, 2], (0, 1, 0)))


class Interface(unittest.TestCase):

    def test_each_is_defined_there_with_its_arguments(self):
        for one, names in ((drawn, ["number", "many"]), (parcel, ["load", "number"])):
            with self.subTest(name=one.__name__):
                self.assertEqual(one.__module__, "rainparcels.draws")
                self.assertEqual(list(inspect.signature(one).parameters), names)


if __name__ == "__main__":
    unittest.main()
