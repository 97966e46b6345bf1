"""Forms: what is one, what it weighs, and the form of a whole number."""

from poisescale.errors import NoForm, NoNumber


def is_whole(thing):
    # Python counts True and False among the ints; the scale doesn't.
    return isinstance(thing, int) and not isinstance(thing, bool)


def is_lay(thing):
    # The kind is asked first: other kinds may not bear a comparison, or may call themselves equal to 1.
    return is_whole(thing) and -1 <= thing <= 1


def is_form(thing):
    if not isinstance(thing, list):
        return False
    for lay in thing:
        if not is_lay(lay):
            return False
    return len(thing) == 0 or thing[-1] != 0


def require_form(thing):
    # The thing itself is not shown: it may be of any kind, and too great or too odd to be written out.
    if not is_form(thing):
        raise NoForm("a form is asked for: a list of lays -1, 0 or 1 whose last lay is not 0")


def lay_at(form, place):
    return form[place] if place < len(form) else 0


def number_of(form):
    require_form(form)
    number = 0
    for lay in reversed(form):
        number = 3 * number + lay
    return number


def pans(form):
    require_form(form)
    left = []
    right = []
    weight = 1
    for lay in form:
        if lay == -1:
            left.append(weight)
        elif lay == 1:
            right.append(weight)
        weight = 3 * weight
    return (left, right)


def form_of(number):
    if not is_whole(number):
        raise NoNumber("a whole number is asked for: an int that is neither True nor False")
    lays = []
    rest = number
    while rest != 0:
        # What is left over by 3 is 0, 1 or 2 also below nought, so one more ahead and one less behind make it a lay.
        lay = (rest + 1) % 3 - 1
        lays.append(lay)
        rest = (rest - lay) // 3
    return lays
