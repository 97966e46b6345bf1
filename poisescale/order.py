"""A form turned about, and which of two forms is heavier."""

from poisescale.forms import lay_at, require_form


def turned(form):
    require_form(form)
    return [-lay for lay in form]


def parting(one, other):
    require_form(one)
    require_form(other)
    longest = max(len(one), len(other))
    for place in range(longest - 1, -1, -1):
        if lay_at(one, place) != lay_at(other, place):
            return place
    return None


def heavier(one, other):
    # The parting place decides alone: at all lower places together two forms differ by less than its weight.
    place = parting(one, other)
    if place is None:
        return False
    return lay_at(one, place) > lay_at(other, place)
