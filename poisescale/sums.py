"""Two forms added place by place, and what is carried from place to place."""

from poisescale.forms import carry_of, lay_at, require_form, without_last_noughts


def lays_together(one, other):
    longest = max(len(one), len(other))
    return [lay_at(one, place) + lay_at(other, place) for place in range(longest)]


def carried_out(together):
    found = []
    carry = 0
    for both in together:
        carry = carry_of(both + carry)
        found.append(carry)
    return found


# Apart from `added`, so that rows made of forms known to be forms are not looked through again and again.
def sum_of(one, other):
    together = lays_together(one, other)
    carried = carried_out(together)
    # The place behind the last has no lays and carries nothing out: all that it holds is what comes in.
    lays = [
        both + carry_in - 3 * carry_out
        for both, carry_in, carry_out in zip(together + [0], [0] + carried, carried + [0])
    ]
    return without_last_noughts(lays)


def added(one, other):
    require_form(one)
    require_form(other)
    return sum_of(one, other)


def carries(one, other):
    require_form(one)
    require_form(other)
    return carried_out(lays_together(one, other))
