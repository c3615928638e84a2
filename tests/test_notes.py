import inspect
import itertools
import unittest

from helping import a_load, all_sets, bits

from rainparcels import errors
from rainparcels.draws import parcel
from rainparcels.notes import read, shown

ASCII = [chr(code) for code in range(128)]


def all_texts(many, wide):
    """Each text that may be read, with its parcel; written as the document shows it."""
    found = {}
    for places in all_sets(many):
        for number in range(2 ** wide):
            value = bits(number, wide)
            ahead = "".join(str(place) + " " for place in places)
            found[ahead + "= " + "".join(map(str, value))] = (places, value)
    return found


class Shown(unittest.TestCase):

    def test_worked_out(self):
        self.assertEqual(shown([0, 2, 11], (0, 1, 1, 0)), "0 2 11 = 0110")
        self.assertEqual(shown([], (0, 1, 1, 0)), "= 0110")
        self.assertEqual(shown([0], (1,)), "0 = 1")
        self.assertEqual(shown([23], (0,)), "23 = 0")
        self.assertEqual(shown([], (0,)), "= 0")
        self.assertEqual(shown([9, 10, 20], (0, 0, 1)), "9 10 20 = 001")

    def test_all_of_few(self):
        for text, (places, value) in all_texts(4, 2).items():
            self.assertEqual(shown(places, value), text)

    def test_what_is_handed_in_stays(self):
        places = [1, 2]
        self.assertIs(type(shown(places, (0, 1))), str)
        self.assertEqual(places, [1, 2])


class Read(unittest.TestCase):

    def check_read(self, text, many, wide, expected):
        answer = read(text, many, wide)
        self.assertEqual(answer, expected)
        self.assertIs(type(answer), tuple)
        self.assertEqual([type(part) for part in answer], [list, tuple])
        for number in answer[0] + list(answer[1]):
            self.assertIs(type(number), int)

    def refused(self, text, many, wide):
        with self.assertRaises(errors.RainError, msg=repr(text)) as caught:
            read(text, many, wide)
        self.assertIs(type(caught.exception), errors.BadText)

    def test_worked_out(self):
        self.check_read("0 2 11 = 0110", 12, 4, ([0, 2, 11], (0, 1, 1, 0)))
        self.check_read("= 0110", 12, 4, ([], (0, 1, 1, 0)))
        self.check_read("0 = 1", 1, 1, ([0], (1,)))
        self.check_read("= 0", 1, 1, ([], (0,)))
        self.check_read("23 = 0", 24, 1, ([23], (0,)))

    def test_what_is_written_is_read(self):
        for many in range(1, 25):
            for wide in (1, 2, 3, 31, 32):
                load = a_load(many, wide)
                for number in range(20):
                    places, value = parcel(load, number)
                    self.check_read(shown(places, value), many, wide, (places, value))
                everywhere = (list(range(many)), (1,) * wide)
                self.check_read(shown(*everywhere), many, wide, everywhere)
                self.check_read(shown([], (0,) * wide), many, wide, ([], (0,) * wide))

    def test_every_short_text(self):
        for many, wide, signs, longest in ((3, 1, "012 =", 7), (2, 2, "01 =+", 7), (1, 1, "01 =\n", 7)):
            known = all_texts(many, wide)
            for length in range(longest + 1):
                for text in map("".join, itertools.product(signs, repeat=length)):
                    if text in known:
                        self.check_read(text, many, wide, known[text])
                    else:
                        self.refused(text, many, wide)

    def test_every_slip_of_one_sign(self):
        for many, wide, right in ((12, 4, "0 2 11 = 0110"), (12, 4, "= 0110"), (12, 2, "10 = 01"), (5, 1, "3 = 1")):
            known = all_texts(many, wide)
            self.check_read(right, many, wide, known[right])
            for at in range(len(right) + 1):
                slips = [right[:at] + right[at + 1:]]
                slips += [right[:at] + sign + right[at:] for sign in ASCII]
                slips += [right[:at] + sign + right[at + 1:] for sign in ASCII]
                for text in slips:
                    if text in known:
                        self.check_read(text, many, wide, known[text])
                    else:
                        self.refused(text, many, wide)

    def test_figures(self):
        for figures in ("00", "01", "+1", "-1", "-0", "1_0", "0x1", "1.0", "1e0", "1,", "one", "", "  1", "10 ", "024"):
            self.refused(figures + " = 01", 24, 2)
            self.refused("0 " + figures + " = 01", 24, 2)
        for figures in ("24", "25", "100", "9" * 30, "9" * 5000, "1" + "0" * 5000, "0" * 5000):
            self.refused(figures + " = 01", 24, 2)

    def test_places_that_are_not_there(self):
        for many in range(1, 25):
            self.check_read(str(many - 1) + " = 0", many, 1, ([many - 1], (0,)))
            self.refused(str(many) + " = 0", many, 1)
            self.refused("0 " + str(many) + " = 0", many, 1)

    def test_places_that_do_not_rise(self):
        for places in ("1 0", "0 0", "0 1 1", "2 1 0", "10 9", "0 10 2", "11 11"):
            self.refused(places + " = 01", 12, 2)

    def test_bits(self):
        for wide in (1, 2, 4, 32):
            for many in (1, 24):
                self.check_read("0 = " + "1" * wide, many, wide, ([0], (1,) * wide))
                for text in ("0 = " + "1" * (wide - 1), "0 = " + "1" * (wide + 1), "= " + "0" * (wide - 1),
                             "= " + "0" * (wide + 1), "0 = " + "2" * wide, "0 = -" + "1" * (wide - 1)):
                    self.refused(text, many, wide)
                for sign in ("a", "2", "9", "\n", " ", "-", "=", "_", "."):
                    self.refused("0 = " + "1" * (wide - 1) + sign, many, wide)
                    self.refused("0 = " + sign + "1" * (wide - 1), many, wide)

    def test_blanks(self):
        for text in (" 0 2 = 01", "0 2 = 01 ", "0  2 = 01", "0 2  = 01", "0 2 =  01", " = 01", "= 01 ", "=  01",
                     "0\t2 = 01", "0 2\n= 01", "0 2 = 01\n", "\n0 2 = 01", "0 2 = 01\r", "0 2 = 01\x00", "0 2 = 0 1",
                     "0\x1f2 = 01", "0 2\x0b= 01", "02 = 01", "0 2= 01", "0 2 =01", "0 2=01", "=01"):
            self.refused(text, 3, 2)

    def test_missing_parts(self):
        for text in ("", " ", "=", "= ", " =", " = ", "0", "0 ", "0 2", "0 2 =", "0 2 = ", "0 2 01", "01", " 01",
                     "0 2 - 01", "0 2 == 01", "0 = 2 = 01", "0 2 = = 01", "= = 01", "= 01 =", "= 01 01", "01 = 0 2",
                     "0, 2 = 01", "[0, 2] = 01", "0 2 : 01", "0 2 = (0, 1)"):
            self.refused(text, 3, 2)

    def test_told_for_another_load(self):
        self.refused("0 2 11 = 0110", 11, 4)
        self.refused("0 2 11 = 0110", 12, 3)
        self.refused("0 2 11 = 0110", 12, 5)
        self.check_read("0 2 11 = 0110", 24, 4, ([0, 2, 11], (0, 1, 1, 0)))

    def test_the_answer_is_the_askers_own(self):
        first = read("0 2 = 01", 3, 2)
        first[0].append(9)
        self.assertEqual(read("0 2 = 01", 3, 2), ([0, 2], (0, 1)))

    def test_by_which_classes_a_refusal_is_taken(self):
        for taker in (errors.BadText, errors.RainError, ValueError):
            with self.assertRaises(taker):
                read("", 1, 1)


class Interface(unittest.TestCase):

    def test_each_is_defined_there_with_its_arguments(self):
        for one, names in ((shown, ["places", "value"]), (read, ["text", "many", "wide"])):
            with self.subTest(name=one.__name__):
                self.assertEqual(one.__module__, "rainparcels.notes")
                self.assertEqual(list(inspect.signature(one).parameters), names)


if __name__ == "__main__":
    unittest.main()
