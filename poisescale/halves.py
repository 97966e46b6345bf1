"""A form halved, and a form parted at a number of places."""

from poisescale.errors import NoPlace
from poisescale.forms import form_of, is_whole, number_of, require_form, without_last_noughts


def halved(form):
    # Python rounds down below nought too, so the rest is never -1.
    number = number_of(form)
    return (form_of(number // 2), number % 2)


def require_places(thing):
    if not is_whole(thing) or thing < 0:
        raise NoPlace("a number of places is asked for: a whole number from 0 on")


def parted(form, places=1):
    # The form is asked for first: where both are wrong, the refusal is the form's.
    require_form(form)
    require_places(places)
    return (form[places:], without_last_noughts(form[:places]))
