"""Points 2, 3, 11, 12, 14 and 15, as far as poisescale.halves goes."""

import inspect
import unittest

from poisescale import halves
from poisescale.errors import NoForm, NoPlace
from poisescale.forms import form_of, number_of
from poisescale.halves import halved, parted
import samples


def assert_pair(case, told):
    case.assertIs(type(told), tuple)
    case.assertEqual(len(told), 2)


class Interface(unittest.TestCase):
    def test_names_and_arguments(self):
        self.assertEqual(list(inspect.signature(halves.halved).parameters), ["form"])
        told = inspect.signature(halves.parted).parameters
        self.assertEqual(list(told), ["form", "places"])
        self.assertEqual(told["places"].default, 1)

    def test_arguments_by_name(self):
        self.assertEqual(halved(form=[-1, 0, 1]), ([1, 1], 0))
        self.assertEqual(parted(places=2, form=[-1, 0, 1]), ([1], [-1]))
        self.assertEqual(parted(form=[-1, 0, 1]), ([0, 1], [-1]))


class Halved(unittest.TestCase):
    def test_ordinary_forms(self):
        self.assertEqual(halved([-1, 0, 1]), ([1, 1], 0))
        self.assertEqual(halved([0, 0, 1]), ([1, 1], 1))
        self.assertEqual(halved([1]), ([], 1))
        self.assertEqual(halved([]), ([], 0))

    def test_odd_and_even_below_nought(self):
        self.assertEqual(halved([-1]), ([-1], 1))
        self.assertEqual(halved([1, -1]), ([-1], 0))
        self.assertEqual(halved([0, -1]), ([1, -1], 1))
        self.assertEqual(number_of(halved([0, -1])[0]), -2)
        self.assertEqual(halved([-1, -1]), ([1, -1], 0))
        self.assertEqual(halved([1, 0, -1]), ([-1, -1], 0))

    def assert_halved(self, form):
        told = halved(form)
        assert_pair(self, told)
        half, rest = told
        samples.assert_plain_form(self, half)
        samples.assert_plain_int(self, rest)
        self.assertEqual(rest, (form.count(1) + form.count(-1)) % 2)
        self.assertEqual(2 * samples.weighed(half) + rest, samples.weighed(form))

    def test_every_short_form(self):
        for form in samples.short_forms(7):
            self.assert_halved(form)

    def test_long_forms(self):
        for form in samples.long_forms():
            self.assert_halved(form)

    def test_great_numbers(self):
        for number in samples.great_numbers():
            self.assertEqual(halved(form_of(number)), (form_of(number // 2), number % 2))

    def test_what_is_told_is_the_askers_own(self):
        for form in samples.short_forms(4) + [[1] * 2000]:
            samples.assert_own(self, halved, form)

    def test_no_form_is_refused(self):
        for place, thing in enumerate(samples.no_forms()):
            with self.subTest(place=place):
                samples.assert_refused(self, NoForm, halved, thing)


class Parted(unittest.TestCase):
    def test_ordinary_forms(self):
        self.assertEqual(parted([-1, 0, 1], 1), ([0, 1], [-1]))
        self.assertEqual(parted([1, -1, 1, 1], 2), ([1, 1], [1, -1]))
        self.assertEqual(parted([1, 1, -1], 2), ([-1], [1, 1]))

    def test_the_number_of_places_left_out_is_1(self):
        for form in samples.short_forms(4) + samples.long_forms():
            self.assertEqual(parted(form), parted(form, 1))
        self.assertEqual(parted([1, -1, 1, 1]), ([-1, 1, 1], [1]))
        self.assertEqual(parted([0, 1]), ([1], []))
        self.assertEqual(parted([]), ([], []))

    def test_0_places(self):
        for form in samples.short_forms(4) + samples.long_forms():
            self.assertEqual(parted(form, 0), (form, []))

    def test_as_many_places_as_lays_and_more(self):
        for form in samples.short_forms(4) + samples.long_forms():
            for places in (len(form), len(form) + 1, len(form) + 2, 2000 + len(form), 10 ** 30):
                self.assertEqual(parted(form, places), ([], form))

    def test_noughts_behind_the_rests_last_lay_are_left_out(self):
        self.assertEqual(parted([-1, 0, 1], 2), ([1], [-1]))
        self.assertEqual(parted([0, 0, 0, 1], 2), ([0, 1], []))
        self.assertEqual(parted([0, -1, 0, 0, 1], 4), ([1], [0, -1]))
        self.assertEqual(parted([0] * 1999 + [1], 1999), ([1], []))

    def test_the_kept_one_keeps_its_first_noughts(self):
        self.assertEqual(parted([1, 0, 0, 1], 1), ([0, 0, 1], [1]))

    def assert_parted(self, form, places):
        told = parted(form, places)
        assert_pair(self, told)
        kept, rest = told
        samples.assert_plain_form(self, kept)
        samples.assert_plain_form(self, rest)
        self.assertEqual(kept, form[places:])
        self.assertEqual(rest + [0] * (min(places, len(form)) - len(rest)), form[:places])
        weight = 3 ** places
        self.assertEqual(samples.weighed(kept) * weight + samples.weighed(rest), samples.weighed(form))
        # Nearer than half a weight: so no other multiple of it is nearer, or as near.
        self.assertLess(2 * abs(samples.weighed(rest)), weight)

    def test_every_short_form(self):
        for form in samples.short_forms(6):
            for places in range(9):
                self.assert_parted(form, places)

    def test_long_forms(self):
        for form in samples.long_forms():
            for places in (0, 1, 2, 999, 1998, 1999, 2000):
                self.assert_parted(form, places)

    def test_what_is_told_is_the_askers_own(self):
        for form in samples.short_forms(4) + [[1] * 2000]:
            samples.assert_own(self, parted, form)
            for places in (0, 1, 2, 3, 4, 5, 2000):
                samples.assert_own(self, parted, form, places)


class PartedRefuses(unittest.TestCase):
    def test_no_form(self):
        for place, thing in enumerate(samples.no_forms()):
            with self.subTest(place=place):
                samples.assert_refused(self, NoForm, parted, thing)
                for places in (0, 1, 2000):
                    samples.assert_refused(self, NoForm, parted, thing, places)

    def test_no_number_of_places(self):
        for place, thing in enumerate(samples.no_places()):
            with self.subTest(place=place):
                for form in ([], [1], [-1, 0, 1], [1] * 2000):
                    samples.assert_refused(self, NoPlace, parted, form, thing)

    def test_truths_are_no_numbers_of_places(self):
        for truth in (True, False):
            samples.assert_refused(self, NoPlace, parted, [-1, 0, 1], truth)

    def test_where_both_are_due_it_is_the_forms(self):
        for thing in samples.no_forms():
            for place, places in enumerate(samples.no_places()):
                with self.subTest(place=place):
                    samples.assert_refused(self, NoForm, parted, thing, places)


if __name__ == "__main__":
    unittest.main()
