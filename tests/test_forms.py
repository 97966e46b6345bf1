"""Points 1 to 6, 14 and 15, as far as poisescale.forms goes."""

import inspect
import unittest

from poisescale import forms
from poisescale.errors import NoForm, NoNumber
from poisescale.forms import form_of, is_form, number_of, pans
import samples


class Interface(unittest.TestCase):
    def test_names_and_arguments(self):
        wanted = {"is_form": ["thing"], "number_of": ["form"], "pans": ["form"], "form_of": ["number"]}
        for name, arguments in wanted.items():
            told = inspect.signature(getattr(forms, name)).parameters
            self.assertEqual(list(told), arguments)

    def test_arguments_by_name(self):
        self.assertIs(is_form(thing=[1]), True)
        self.assertEqual(number_of(form=[-1, 0, 1]), 8)
        self.assertEqual(pans(form=[-1, 0, 1]), ([1], [9]))
        self.assertEqual(form_of(number=8), [-1, 0, 1])


class IsForm(unittest.TestCase):
    def test_the_documents_examples(self):
        self.assertIs(is_form([-1, 0, 1]), True)
        self.assertIs(is_form([]), True)
        self.assertIs(is_form([0]), False)
        self.assertIs(is_form([1, 0]), False)
        self.assertIs(is_form(()), False)
        self.assertIs(is_form((-1, 0, 1)), False)

    def test_every_short_form(self):
        for form in samples.short_forms(6):
            self.assertIs(is_form(form), True)

    def test_every_short_list_that_ends_in_nought(self):
        for form in samples.short_forms(5):
            self.assertIs(is_form(form + [0]), False)
            self.assertIs(is_form(form + [0, 0]), False)

    def test_truths_are_no_lays(self):
        for lays in ([True], [False, 1], [1, True], [-1, False, 1], [True, 1], [1, False]):
            self.assertIs(is_form(lays), False)

    def test_long_lists(self):
        for form in samples.long_forms():
            self.assertIs(is_form(form), True)
            self.assertIs(is_form(form + [0]), False)
            self.assertIs(is_form([2] + form), False)
            self.assertIs(is_form(form + [True]), False)

    def test_whatever_is_no_form(self):
        for place, thing in enumerate(samples.no_forms()):
            with self.subTest(place=place):
                self.assertIs(is_form(thing), False)

    def test_what_is_handed_in_stays(self):
        for lays in ([], [-1, 0, 1], [0], [1, 0, 0], [2, 1], [True, 1]):
            kept = list(lays)
            is_form(lays)
            self.assertEqual(lays, kept)


class NumberOf(unittest.TestCase):
    def test_the_documents_examples(self):
        self.assertEqual(number_of([-1, 0, 1]), 8)
        self.assertEqual(number_of([]), 0)

    def test_single_weights(self):
        weight = 1
        for place in range(60):
            self.assertEqual(number_of([0] * place + [1]), weight)
            self.assertEqual(number_of([0] * place + [-1]), -weight)
            weight *= 3

    def test_every_short_form(self):
        for form in samples.short_forms(7):
            self.assertEqual(number_of(form), samples.weighed(form))

    def test_long_forms(self):
        for form in samples.long_forms():
            self.assertEqual(number_of(form), samples.weighed(form))
        self.assertEqual(number_of([1] * 2000), (3 ** 2000 - 1) // 2)
        self.assertEqual(number_of([-1] * 2000), -((3 ** 2000 - 1) // 2))

    def test_a_whole_number_is_told(self):
        for form in ([], [1], [-1], [-1, 1], [1] * 2000):
            samples.assert_plain_int(self, number_of(form))

    def test_what_is_handed_in_stays(self):
        for form in samples.short_forms(4):
            kept = list(form)
            number_of(form)
            self.assertEqual(form, kept)

    def test_no_form_is_refused(self):
        for place, thing in enumerate(samples.no_forms()):
            with self.subTest(place=place):
                samples.assert_refused(self, NoForm, number_of, thing)


class Pans(unittest.TestCase):
    def test_ordinary_forms(self):
        self.assertEqual(pans([-1, 0, 1]), ([1], [9]))
        self.assertEqual(pans([]), ([], []))
        self.assertEqual(pans([1]), ([], [1]))
        self.assertEqual(pans([-1]), ([1], []))
        self.assertEqual(pans([1, -1, 0, -1, 1, 1]), ([3, 27], [1, 81, 243]))

    def test_every_short_form(self):
        for form in samples.short_forms(6):
            left = [3 ** place for place, lay in enumerate(form) if lay == -1]
            right = [3 ** place for place, lay in enumerate(form) if lay == 1]
            self.assertEqual(pans(form), (left, right))

    def test_long_forms(self):
        for form in samples.long_forms():
            left, right = pans(form)
            self.assertEqual(left, sorted(left))
            self.assertEqual(right, sorted(right))
            self.assertEqual(len(left), form.count(-1))
            self.assertEqual(len(right), form.count(1))
            self.assertEqual(sum(right) - sum(left), samples.weighed(form))

    def test_a_pair_of_lists_of_whole_numbers_is_told(self):
        for form in ([], [1], [-1], [-1, 0, 1]):
            told = pans(form)
            self.assertIs(type(told), tuple)
            self.assertEqual(len(told), 2)
            for pan in told:
                self.assertIs(type(pan), list)
                for weight in pan:
                    samples.assert_plain_int(self, weight)

    def test_the_lists_are_the_askers_own(self):
        for form in samples.short_forms(4):
            kept = list(form)
            first = pans(form)
            wanted = (list(first[0]), list(first[1]))
            first[0].append("mine")
            self.assertEqual(first[1], wanted[1])
            first[1].insert(0, "mine too")
            self.assertEqual(form, kept)
            self.assertEqual(pans(form), wanted)
            first[0].clear()
            first[1].clear()
            self.assertEqual(pans(form), wanted)

    def test_a_form_changed_afterwards_changes_nothing_told(self):
        form = [-1, 0, 1]
        told = pans(form)
        form[0] = 1
        form.append(1)
        self.assertEqual(told, ([1], [9]))

    def test_no_form_is_refused(self):
        for place, thing in enumerate(samples.no_forms()):
            with self.subTest(place=place):
                samples.assert_refused(self, NoForm, pans, thing)


class FormOf(unittest.TestCase):
    def test_ordinary_numbers(self):
        wanted = {
            0: [], 1: [1], -1: [-1], 2: [-1, 1], -2: [1, -1], 3: [0, 1], -3: [0, -1], 4: [1, 1], -4: [-1, -1],
            5: [-1, -1, 1], -5: [1, 1, -1], 8: [-1, 0, 1], -8: [1, 0, -1], 13: [1, 1, 1], 14: [-1, -1, -1, 1],
            100: [1, 0, -1, 1, 1],
        }
        for number, form in wanted.items():
            self.assertEqual(form_of(number), form)

    def test_every_short_form_is_the_form_of_its_number(self):
        for form in samples.short_forms(7):
            self.assertEqual(form_of(samples.weighed(form)), form)

    def test_every_number_near_nought(self):
        for number in range(-3000, 3001):
            form = form_of(number)
            samples.assert_plain_form(self, form)
            self.assertEqual(samples.weighed(form), number)

    def test_great_numbers(self):
        for number in samples.great_numbers():
            form = form_of(number)
            samples.assert_plain_form(self, form)
            self.assertEqual(samples.weighed(form), number)

    def test_the_list_is_the_askers_own(self):
        for number in (0, 1, -1, 8, -100, 10 ** 949):
            first = form_of(number)
            wanted = list(first)
            self.assertIsNot(form_of(number), first)
            first.append(1)
            first[0] = "mine"
            self.assertEqual(form_of(number), wanted)

    def test_no_number_is_refused(self):
        for place, thing in enumerate(samples.no_numbers()):
            with self.subTest(place=place):
                samples.assert_refused(self, NoNumber, form_of, thing)


class ThereAndBack(unittest.TestCase):
    def test_from_number_to_form_and_back(self):
        for number in list(range(-2000, 2001)) + samples.great_numbers():
            form = form_of(number)
            self.assertIs(is_form(form), True)
            self.assertEqual(number_of(form), number)

    def test_from_form_to_number_and_back(self):
        for form in samples.short_forms(6) + samples.long_forms():
            self.assertEqual(form_of(number_of(form)), form)

    def test_the_pans_hold_what_the_form_weighs(self):
        for number in list(range(-500, 501)) + samples.great_numbers():
            left, right = pans(form_of(number))
            self.assertEqual(sum(right) - sum(left), number)


if __name__ == "__main__":
    unittest.main()
