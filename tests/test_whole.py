"""Point 15 over the whole program: reckoning in forms is the reckoning of whole numbers."""

import unittest

from poisescale.forms import form_of, is_form, number_of
from poisescale.halves import halved, parted
from poisescale.order import heavier, turned
from poisescale.products import multiplied, rows
from poisescale.sums import added
from poisescale.texts import read, shown
import samples

MOST_LAYS = 2000


class Choices:
    """The same run of choices on each Python and at each time."""

    def __init__(self, first):
        self.state = first

    def below(self, bound):
        self.state = (self.state * 6364136223846793005 + 1442695040888963407) % 2 ** 64
        return (self.state >> 33) % bound


def parted_number(number, places):
    """The nearest multiple of the place's weight, told in these weights, and what is left."""
    weight = 3 ** places
    kept = (2 * number + weight) // (2 * weight)
    return kept, number - kept * weight


# Each deed below takes two pairs of a form and its number, and tells the pairs that come of them.

def turn(choices, one, other):
    return [(turned(one[0]), -one[1])]


def add(choices, one, other):
    return [(added(one[0], other[0]), one[1] + other[1])]


def multiply(choices, one, other):
    if len(one[0]) + len(other[0]) > MOST_LAYS:
        return [(added(one[0], turned(other[0])), one[1] - other[1])]
    return [(multiplied(one[0], other[0]), one[1] * other[1])]


def sums_of_rows(choices, one, other):
    if len(one[0]) + len(other[0]) > 100:
        return add(choices, one, other)
    told = rows(one[0], other[0])
    weights = [sum(lay * 3 ** place for place, lay, total in told[:end + 1]) for end in range(len(told))]
    return [(told[end][2], one[1] * weights[end]) for end in range(len(told))][-2:]


def halve(choices, one, other):
    half, rest = halved(one[0])
    return [(half, one[1] // 2), (form_of(rest), one[1] % 2)]


def part(choices, one, other):
    places = choices.below(len(one[0]) + 3)
    return list(zip(parted(one[0], places), parted_number(one[1], places)))


def part_once(choices, one, other):
    return list(zip(parted(one[0]), parted_number(one[1], 1)))


def write_and_read(choices, one, other):
    return [(read(shown(one[0])), one[1])]


DEEDS = (turn, add, add, multiply, sums_of_rows, halve, part, part_once, write_and_read)


class Chains(unittest.TestCase):
    def assert_the_one_form(self, form, number):
        samples.assert_plain_form(self, form)
        self.assertIs(is_form(form), True)
        self.assertEqual(number_of(form), number)
        self.assertEqual(form_of(number), form)

    def run_chain(self, choices, pairs, steps):
        for step in range(steps):
            one = pairs[choices.below(len(pairs))]
            other = pairs[choices.below(len(pairs))]
            kept = (list(one[0]), list(other[0]))
            deed = DEEDS[choices.below(len(DEEDS))]
            with self.subTest(deed=deed.__name__, step=step):
                for form, number in deed(choices, one, other):
                    self.assert_the_one_form(form, number)
                    self.assertIs(heavier(form, one[0]), number > one[1])
                    self.assertIs(heavier(other[0], form), other[1] > number)
                    # Nought breeds nought, so most of the smallest forms are not reckoned on with.
                    if len(form) > 1 or choices.below(6) == 0:
                        pairs[choices.below(len(pairs))] = (form, number)
            self.assertEqual((one[0], other[0]), kept)

    def test_chains_from_small_numbers(self):
        for first in range(40):
            choices = Choices(first)
            numbers = [choices.below(200) - 100 for part_of_start in range(6)]
            self.run_chain(choices, [(form_of(number), number) for number in numbers], 60)

    def test_chains_from_great_numbers(self):
        great = samples.great_numbers()
        for first in range(10):
            choices = Choices(1000 + first)
            numbers = [great[choices.below(len(great))] for part_of_start in range(6)]
            self.run_chain(choices, [(form_of(number), number) for number in numbers], 25)


class Together(unittest.TestCase):
    def test_twice_the_half_and_the_rest_come_to_the_form(self):
        for form in samples.short_forms(5) + samples.long_forms():
            half, rest = halved(form)
            self.assertEqual(added(added(half, half), form_of(rest)), form)

    def test_the_kept_times_the_weight_and_the_rest_come_to_the_form(self):
        for form in samples.short_forms(4) + samples.long_forms()[:7]:
            for places in (0, 1, 2, 3, 1000):
                kept, rest = parted(form, places)
                weight = [0] * places + [1]
                self.assertEqual(added(multiplied(kept, weight), rest), form)

    def test_products_are_spread_over_sums(self):
        found = samples.short_forms(2)
        for one in found:
            for other in found:
                for third in found:
                    wanted = added(multiplied(one, third), multiplied(other, third))
                    self.assertEqual(multiplied(added(one, other), third), wanted)

    def test_heavier_just_where_the_difference_is_above_nought(self):
        found = samples.short_forms(3)
        for one in found:
            for other in found:
                difference = added(one, turned(other))
                self.assertIs(heavier(one, other), heavier(difference, []))
                self.assertIs(heavier(one, other), number_of(difference) > 0)


if __name__ == "__main__":
    unittest.main()
