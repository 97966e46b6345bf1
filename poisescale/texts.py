"""Forms written as texts, and texts read as forms."""

from poisescale.errors import NoText
from poisescale.forms import is_form, require_form

# The sign of a lay stands one place behind the lay's own number.
SIGNS = "<.>"

# The form without lays would leave no sign at all, so it has a text of its own.
WITHOUT_LAYS = "."


def shown(form):
    require_form(form)
    if len(form) == 0:
        return WITHOUT_LAYS
    return "".join([SIGNS[lay + 1] for lay in reversed(form)])


def lays_in(text):
    # Another sign is found at -1 and comes to -2, which is no lay.
    return [SIGNS.find(sign) - 1 for sign in reversed(text)]


def writes_form(text):
    # A text that begins with the sign of 0 comes to lays that end with 0, which is_form refuses.
    return text == WITHOUT_LAYS or (text != "" and is_form(lays_in(text)))


def read(text):
    if not isinstance(text, str) or not writes_form(text):
        raise NoText("a text that writes a form is asked for: signs < . > alone, the first not . but by itself")
    if text == WITHOUT_LAYS:
        return []
    return lays_in(text)
