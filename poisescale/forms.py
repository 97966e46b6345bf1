"""Forms: what is one, what it weighs, and the form of a whole number."""

from poisescale.errors import NoForm, NoNumber


def is_whole(thing):
    # Python counts True and False among the ints; the scale doesn't.
    return isinstance(thing, int) and not isinstance(thing, bool)


def is_lay(thing):
    # The kind is asked first: other kinds may not bear a comparison, or may call themselves equal to 1.
    return is_whole(thing) and -1 <= thing <= 1


def is_form(thing):
    if not isinstance(thing, list):
        return False
    for lay in thing:
        if not is_lay(lay):
            return False
    return len(thing) == 0 or thing[-1] != 0


def require_form(thing):
    # The thing itself is not shown: it may be of any kind, and too great or too odd to be written out.
    if not is_form(thing):
        raise NoForm("a form is asked for: a list of lays -1, 0 or 1 whose last lay is not 0")


def lay_at(form, place):
    return form[place] if place < len(form) else 0


def carry_of(number):
    # Python rounds down below nought too, so what is left, number - 3 * carry, is always -1, 0 or 1.
    return (number + 1) // 3


def without_last_noughts(lays):
    length = len(lays)
    while length > 0 and lays[length - 1] == 0:
        length = length - 1
    return lays[:length]


def number_of(form):
    require_form(form)
    number = 0
    for lay in reversed(form):
        number = 3 * number + lay
    return number


def pans(form):
    require_form(form)
    left = []
    right = []
    weight = 1
    for lay in form:
        if lay == -1:
            left.append(weight)
        elif lay == 1:
            right.append(weight)
        weight = 3 * weight
    return (left, right)


def form_of(number):
    if not is_whole(number):
        raise NoNumber("a whole number is asked for: an int that is neither True nor False")
    lays = []
    rest = number
    while rest != 0:
        carry = carry_of(rest)
        lays.append(rest - 3 * carry)
        rest = carry
    return lays
