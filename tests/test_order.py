"""Points 2, 7, 8, 14 and 15, as far as poisescale.order goes."""

import inspect
import unittest

from poisescale import order
from poisescale.errors import NoForm
from poisescale.forms import form_of, number_of, pans
from poisescale.order import heavier, parting, turned
import samples


def padded(form, length):
    return form + [0] * (length - len(form))


def greatest_unlike_place(one, other):
    """Where two forms part, by the document's words."""
    length = max(len(one), len(other))
    pairs = list(zip(padded(one, length), padded(other, length)))
    return max([place for place in range(length) if pairs[place][0] != pairs[place][1]], default=None)


class Interface(unittest.TestCase):
    def test_names_and_arguments(self):
        wanted = {"turned": ["form"], "parting": ["one", "other"], "heavier": ["one", "other"]}
        for name, arguments in wanted.items():
            told = inspect.signature(getattr(order, name)).parameters
            self.assertEqual(list(told), arguments)

    def test_arguments_by_name(self):
        self.assertEqual(turned(form=[-1, 0, 1]), [1, 0, -1])
        self.assertEqual(parting(other=[1], one=[]), 0)
        self.assertIs(heavier(other=[1], one=[]), False)
        self.assertIs(heavier(other=[], one=[1]), True)


class Turned(unittest.TestCase):
    def test_ordinary_forms(self):
        self.assertEqual(turned([-1, 0, 1]), [1, 0, -1])
        self.assertEqual(turned([]), [])
        self.assertEqual(turned([1]), [-1])
        self.assertEqual(turned([-1, -1, 1]), [1, 1, -1])

    def test_each_weight_lies_in_the_other_pan(self):
        for form in samples.short_forms(6) + samples.long_forms():
            told = turned(form)
            samples.assert_plain_form(self, told)
            left, right = pans(form)
            self.assertEqual(pans(told), (right, left))

    def test_it_weighs_the_opposite_number(self):
        for number in list(range(-1000, 1001)) + samples.great_numbers():
            self.assertEqual(turned(form_of(number)), form_of(-number))

    def test_turned_twice_is_as_before(self):
        for form in samples.short_forms(6) + samples.long_forms():
            self.assertEqual(turned(turned(form)), form)

    def test_the_list_is_the_askers_own(self):
        for form in samples.short_forms(4):
            kept = list(form)
            first = turned(form)
            wanted = list(first)
            self.assertIsNot(first, form)
            first.append("mine")
            first[0] = "mine"
            self.assertEqual(form, kept)
            self.assertEqual(turned(form), wanted)

    def test_a_form_changed_afterwards_changes_nothing_told(self):
        for form in ([], [-1, 0, 1]):
            told = turned(form)
            wanted = list(told)
            form.append(1)
            self.assertEqual(told, wanted)

    def test_no_form_is_refused(self):
        for place, thing in enumerate(samples.no_forms()):
            with self.subTest(place=place):
                samples.assert_refused(self, NoForm, turned, thing)


class Parting(unittest.TestCase):
    def test_ordinary_forms(self):
        self.assertEqual(parting([-1, 0, 1], [1, 0, 1]), 0)
        self.assertEqual(parting([-1, 1, 1], [1, 0, 1]), 1)
        self.assertEqual(parting([1, 1, 1], [1, 1, -1]), 2)

    def test_forms_of_unlike_length(self):
        self.assertEqual(parting([], [1]), 0)
        self.assertEqual(parting([-1], []), 0)
        self.assertEqual(parting([1], [1, 1]), 1)
        self.assertEqual(parting([1, 0, 0, -1], [1]), 3)
        self.assertEqual(parting([-1], [1, 1, 1, 1, 1]), 4)

    def test_alike_forms_part_nowhere(self):
        for form in samples.short_forms(5) + samples.long_forms():
            self.assertIsNone(parting(form, form))
            self.assertIsNone(parting(form, list(form)))

    def test_every_pair_of_short_forms(self):
        found = samples.short_forms(4)
        for one in found:
            for other in found:
                self.assertEqual(parting(one, other), greatest_unlike_place(one, other))

    def test_long_forms(self):
        found = samples.long_forms()
        for one in found:
            for other in found + [[], [1], [-1, 0, 1]]:
                wanted = greatest_unlike_place(one, other)
                self.assertEqual(parting(one, other), wanted)
                self.assertEqual(parting(other, one), wanted)
        self.assertEqual(parting([-1] + [1] * 1999, [1] * 2000), 0)

    def test_a_whole_number_is_told(self):
        for one, other in (([], [1]), ([1], [-1]), ([1], [1, 1]), ([-1, 1], [1, 1])):
            samples.assert_plain_int(self, parting(one, other))


class Heavier(unittest.TestCase):
    def test_ordinary_forms(self):
        self.assertIs(heavier([1, 0, 1], [-1, 0, 1]), True)
        self.assertIs(heavier([-1, 0, 1], [1, 0, 1]), False)
        self.assertIs(heavier([-1, -1, 1], [1, 1]), True)
        self.assertIs(heavier([1, 1], [-1, -1, 1]), False)
        self.assertIs(heavier([1, 1, -1], [-1, -1]), False)
        self.assertIs(heavier([-1, -1], [1, 1, -1]), True)

    def test_the_form_without_lays(self):
        self.assertIs(heavier([], [-1]), True)
        self.assertIs(heavier([-1], []), False)
        self.assertIs(heavier([1], []), True)
        self.assertIs(heavier([], [1]), False)
        self.assertIs(heavier([], []), False)

    def test_of_alike_forms_neither_is_heavier(self):
        for form in samples.short_forms(5) + samples.long_forms():
            self.assertIs(heavier(form, form), False)
            self.assertIs(heavier(form, list(form)), False)

    def test_every_pair_of_short_forms(self):
        found = samples.short_forms(4)
        for one in found:
            for other in found:
                self.assertIs(heavier(one, other), samples.weighed(one) > samples.weighed(other))

    def test_long_forms(self):
        found = [(form, samples.weighed(form)) for form in samples.long_forms() + [[], [1], [-1]]]
        for one, one_weighs in found:
            for other, other_weighs in found:
                self.assertIs(heavier(one, other), one_weighs > other_weighs)

    def test_just_where_the_number_is_greater(self):
        numbers = list(range(-45, 46)) + samples.great_numbers()
        found = [(number, form_of(number)) for number in numbers]
        for one_number, one in found:
            for other_number, other in found:
                self.assertIs(heavier(one, other), one_number > other_number)

    def test_neighbours_of_great_numbers(self):
        for number in samples.great_numbers():
            self.assertIs(heavier(form_of(number + 1), form_of(number)), True)
            self.assertIs(heavier(form_of(number), form_of(number + 1)), False)


class BothOfTwoForms(unittest.TestCase):
    def test_what_is_handed_in_stays(self):
        found = samples.short_forms(3)
        for deed in (parting, heavier):
            for one in found:
                for other in found:
                    kept = (list(one), list(other))
                    deed(one, other)
                    self.assertEqual((one, other), kept)

    def test_no_form_is_refused_at_either_argument(self):
        for deed in (parting, heavier):
            samples.assert_both_are_asked_to_be_forms(self, deed)

    def test_the_number_agrees_with_the_order_after_turning(self):
        found = samples.short_forms(3)
        for one in found:
            for other in found:
                self.assertIs(heavier(turned(other), turned(one)), number_of(one) > number_of(other))


if __name__ == "__main__":
    unittest.main()
