"""A form multiplied by another one, row by row and at once."""

from poisescale.forms import form_of, number_of, require_form, without_last_noughts
from poisescale.sums import sum_of


def added_from(form, place, more):
    # What is laid from this place on leaves the lays below it as they are, so only the rest is added anew.
    below = form[:place] + [0] * (place - len(form))
    return without_last_noughts(below + sum_of(form[place:], more))


def rows(one, other):
    require_form(one)
    require_form(other)
    found = []
    total = []
    for place, lay in enumerate(other):
        if lay != 0:
            total = added_from(total, place, [lay * own for own in one])
            found.append((place, lay, total))
    return found


def multiplied(one, other):
    # The last row's sum weighs just this, and the rows ahead of it would be made for nothing.
    return form_of(number_of(one) * number_of(other))
