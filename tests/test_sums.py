"""Points 2, 3, 9, 14 and 15, as far as poisescale.sums goes."""

import inspect
import unittest

from poisescale import sums
from poisescale.forms import form_of
from poisescale.order import turned
from poisescale.sums import added, carries
import samples


def assert_added_by_the_document(case, one, other):
    """Walks the places as point 9 tells them, and holds the sum and the carries against that."""
    total = added(one, other)
    carried = carries(one, other)
    length = max(len(one), len(other))
    samples.assert_plain_form(case, total)
    case.assertIs(type(carried), list)
    case.assertEqual(len(carried), length)
    case.assertLessEqual(len(total), length + 1)
    lays = total + [0] * (length + 1 - len(total))
    carry = 0
    for place in range(length):
        samples.assert_plain_int(case, carried[place])
        case.assertIn(carried[place], (-1, 0, 1))
        both = sum(form[place] for form in (one, other) if place < len(form))
        case.assertEqual(both + carry, lays[place] + 3 * carried[place])
        carry = carried[place]
    case.assertEqual(lays[length], carry)


class Interface(unittest.TestCase):
    def test_names_and_arguments(self):
        for name in ("added", "carries"):
            told = inspect.signature(getattr(sums, name)).parameters
            self.assertEqual(list(told), ["one", "other"])

    def test_arguments_by_name(self):
        self.assertEqual(added(other=[1], one=[1]), [-1, 1])
        self.assertEqual(carries(other=[1], one=[1, 0, 1]), [1, 0, 0])


class Added(unittest.TestCase):
    def test_ordinary_forms(self):
        self.assertEqual(added([-1, 0, 1], [1]), [0, 0, 1])
        self.assertEqual(added([-1, 0, 1], [-1, 0, 1]), [1, -1, -1, 1])
        self.assertEqual(added([1, 1], [0, -1, 1]), [1, 0, 1])

    def test_forms_without_lays(self):
        self.assertEqual(added([], []), [])
        for form in samples.short_forms(5) + samples.long_forms():
            self.assertEqual(added(form, []), form)
            self.assertEqual(added([], form), form)

    def test_a_carry_out_of_the_last_place_is_a_lay(self):
        self.assertEqual(added([1], [1]), [-1, 1])
        self.assertEqual(added([-1], [-1]), [1, -1])
        self.assertEqual(added([1, 1, 1], [1]), [-1, -1, -1, 1])
        self.assertEqual(added([-1], [-1, -1, -1]), [1, 1, 1, -1])

    def test_noughts_at_the_end_are_left_out(self):
        self.assertEqual(added([1], [-1]), [])
        self.assertEqual(added([1, 0, 1], [0, 0, -1]), [1])
        self.assertEqual(added([0, 1, 1], [0, 0, -1]), [0, 1])
        self.assertEqual(added([-1, -1, 1], [-1, -1]), [1])
        self.assertEqual(added([-1, -1, -1, 1], [-1]), [1, 1, 1])

    def test_a_form_and_itself_turned_about_come_to_nothing(self):
        for form in samples.short_forms(5) + samples.long_forms():
            self.assertEqual(added(form, turned(form)), [])

    def test_great_numbers(self):
        numbers = samples.great_numbers()[::3]
        for one in numbers:
            for other in numbers[::5] + [0, 1, -1, -one, 1 - one]:
                self.assertEqual(added(form_of(one), form_of(other)), form_of(one + other))


class Carries(unittest.TestCase):
    def test_ordinary_forms(self):
        self.assertEqual(carries([-1, 0, 1], [1]), [0, 0, 0])
        self.assertEqual(carries([-1, 0, 1], [-1, 0, 1]), [-1, 0, 1])
        self.assertEqual(carries([1, 1, 1], [1]), [1, 1, 1])
        self.assertEqual(carries([-1], [-1, -1, -1]), [-1, -1, -1])

    def test_of_forms_without_lays(self):
        self.assertEqual(carries([], []), [])
        for form in samples.short_forms(5) + samples.long_forms():
            self.assertEqual(carries(form, []), [0] * len(form))
            self.assertEqual(carries([], form), [0] * len(form))

    def test_as_many_as_the_longer_form_has_lays(self):
        self.assertEqual(carries([1], [-1]), [0])
        self.assertEqual(carries([1, 0, 1], [0, 0, -1]), [0, 0, 0])
        self.assertEqual(carries([1], [1, 0, 0, 0, -1]), [1, 0, 0, 0, 0])
        self.assertEqual(carries([1, 0, 0, 0, -1], [1]), [1, 0, 0, 0, 0])


class Both(unittest.TestCase):
    def test_every_pair_of_short_forms(self):
        found = [(form, samples.weighed(form)) for form in samples.short_forms(4)]
        for one, one_weighs in found:
            for other, other_weighs in found:
                assert_added_by_the_document(self, one, other)
                self.assertEqual(samples.weighed(added(one, other)), one_weighs + other_weighs)

    def test_long_forms(self):
        for one in samples.long_forms()[7:]:
            for other in samples.long_forms()[:9] + [[1], [-1, 0, 1]]:
                assert_added_by_the_document(self, one, other)
                assert_added_by_the_document(self, other, one)

    def test_a_carry_through_2000_places(self):
        self.assertEqual(added([1] * 2000, [1]), [-1] * 2000 + [1])
        self.assertEqual(carries([1] * 2000, [1]), [1] * 2000)
        self.assertEqual(added([-1], [-1] * 2000), [1] * 2000 + [-1])
        self.assertEqual(carries([-1], [-1] * 2000), [-1] * 2000)
        self.assertEqual(added([1] * 2000, [-1] * 2000), [])

    def test_what_is_told_is_the_askers_own(self):
        for deed in (added, carries):
            samples.assert_own_of_each_pair(self, deed, samples.short_forms(3) + [[1] * 2000, [-1] * 2000])

    def test_no_form_is_refused_at_either_argument(self):
        for deed in (added, carries):
            samples.assert_both_are_asked_to_be_forms(self, deed)


if __name__ == "__main__":
    unittest.main()
