"""Points 2, 3, 10, 14 and 15, as far as poisescale.products goes."""

import inspect
import unittest

from poisescale import products
from poisescale.forms import form_of
from poisescale.order import turned
from poisescale.products import multiplied, rows
import samples


def assert_rows_by_the_document(case, one, other, step=1):
    """Holds the rows against point 10; what the sums weigh is asked of every step-th row and of the last."""
    told = rows(one, other)
    case.assertIs(type(told), list)
    places = [place for place in range(len(other)) if other[place] != 0]
    case.assertEqual([row[0] for row in told], places)
    case.assertEqual([row[1] for row in told], [other[place] for place in places])
    one_weighs = samples.weighed(one)
    for row in told[::step] + told[-1:]:
        case.assertIs(type(row), tuple)
        case.assertEqual(len(row), 3)
        samples.assert_plain_int(case, row[0])
        samples.assert_plain_int(case, row[1])
        samples.assert_plain_form(case, row[2])
        case.assertEqual(samples.weighed(row[2]), one_weighs * samples.weighed(other[:row[0] + 1]))
    case.assertEqual(multiplied(one, other), told[-1][2] if told else [])


class Interface(unittest.TestCase):
    def test_names_and_arguments(self):
        for name in ("rows", "multiplied"):
            told = inspect.signature(getattr(products, name)).parameters
            self.assertEqual(list(told), ["one", "other"])

    def test_arguments_by_name(self):
        self.assertEqual(rows(other=[0, 1], one=[-1, 0, 1]), [(1, 1, [0, -1, 0, 1])])
        self.assertEqual(multiplied(other=[0, 1], one=[-1, 0, 1]), [0, -1, 0, 1])


class Rows(unittest.TestCase):
    def test_ordinary_forms(self):
        self.assertEqual(rows([-1, 0, 1], [1]), [(0, 1, [-1, 0, 1])])
        self.assertEqual(rows([-1, 0, 1], [-1]), [(0, -1, [1, 0, -1])])
        self.assertEqual(rows([-1, 1], [1, -1]), [(0, 1, [-1, 1]), (1, -1, [-1, -1])])
        self.assertEqual(rows([1, 1], [-1, 0, 1]), [(0, -1, [-1, -1]), (2, 1, [-1, -1, 1, 1])])
        self.assertEqual(rows([1], [0, 0, 0, -1]), [(3, -1, [0, 0, 0, -1])])

    def test_the_sums_run_from_place_0_up_to_the_rows_own(self):
        told = rows([1], [1, -1, 0, 1])
        self.assertEqual(told, [(0, 1, [1]), (1, -1, [1, -1]), (3, 1, [1, -1, 0, 1])])

    def test_forms_without_lays(self):
        self.assertEqual(rows([], []), [])
        for form in samples.short_forms(4):
            self.assertEqual(rows(form, []), [])
            wanted = [(place, lay, []) for place, lay in enumerate(form) if lay != 0]
            self.assertEqual(rows([], form), wanted)

    def test_every_pair_of_short_forms(self):
        found = samples.short_forms(4)
        for one in found:
            for other in found:
                assert_rows_by_the_document(self, one, other)

    def test_a_short_form_and_a_long_one(self):
        for form in samples.long_forms()[7:]:
            for short in ([], [1], [-1], [-1, -1, 1], [0, 0, -1]):
                assert_rows_by_the_document(self, form, short)
                assert_rows_by_the_document(self, short, form, 499)

    def test_two_forms_of_2000_lays(self):
        for one, other in (([1] * 2000, [-1] * 1999 + [1]), (samples.long_forms()[13], [-1] * 2000)):
            assert_rows_by_the_document(self, one, other, 499)

    def test_the_sums_lie_in_lists_of_their_own(self):
        for one in ([], [1], [-1, 0, 1]):
            told = rows(one, [1, -1, 0, 1])
            kept = samples.unshared(told)
            for place in range(len(told)):
                told[place][2].append("mine")
                self.assertEqual(told[place + 1:], kept[place + 1:])
                told[place][2].pop()
                self.assertEqual(told, kept)


class Multiplied(unittest.TestCase):
    def test_ordinary_forms(self):
        self.assertEqual(multiplied([-1, 0, 1], [1]), [-1, 0, 1])
        self.assertEqual(multiplied([-1, 0, 1], [-1]), [1, 0, -1])
        self.assertEqual(multiplied([-1, 1], [-1, 1]), [1, 1])
        self.assertEqual(multiplied([0, 1], [0, 0, -1]), [0, 0, 0, -1])

    def test_where_there_is_no_row(self):
        self.assertEqual(multiplied([], []), [])
        for form in samples.short_forms(4) + samples.long_forms():
            self.assertEqual(multiplied(form, []), [])
            self.assertEqual(multiplied([], form), [])

    def test_every_pair_of_numbers_near_nought(self):
        found = [(number, form_of(number)) for number in range(-45, 46)]
        for one_number, one in found:
            for other_number, other in found:
                told = multiplied(one, other)
                samples.assert_plain_form(self, told)
                self.assertEqual(samples.weighed(told), one_number * other_number)

    def test_long_forms(self):
        for one in samples.long_forms()[7:14]:
            for other in samples.long_forms()[5:10]:
                told = multiplied(one, other)
                samples.assert_plain_form(self, told)
                self.assertEqual(samples.weighed(told), samples.weighed(one) * samples.weighed(other))

    def test_great_numbers(self):
        numbers = samples.great_numbers()[::5]
        for one in numbers:
            for other in numbers[::3] + [0, 1, -1, 3]:
                self.assertEqual(multiplied(form_of(one), form_of(other)), form_of(one * other))

    def test_a_form_turned_about_turns_the_product_about(self):
        found = samples.short_forms(3)
        for one in found:
            for other in found:
                wanted = turned(multiplied(one, other))
                self.assertEqual(multiplied(turned(one), other), wanted)
                self.assertEqual(multiplied(one, turned(other)), wanted)


class Both(unittest.TestCase):
    def test_what_is_told_is_the_askers_own(self):
        for deed in (rows, multiplied):
            samples.assert_own_of_each_pair(self, deed, samples.short_forms(3))

    def test_no_form_is_refused_at_either_argument(self):
        for deed in (rows, multiplied):
            samples.assert_both_are_asked_to_be_forms(self, deed)


if __name__ == "__main__":
    unittest.main()
