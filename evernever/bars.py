"""Bars: tuples (asked, lit) of the lamps that are asked for and of those of them that must be lit."""

from evernever.crowds import all_stands


def bar_of(many, stand):
    return ((1 << many) - 1, stand)


def lies_in(stand, bar):
    return stand & bar[0] == bar[1]


def crowd_of(many, bar):
    if bar[1] >> many:
        return 0
    # Lamp by lamp: with each the stands are twice as many, those where it is lit behind those where it is not.
    crowd = 1
    for lamp in range(many):
        lit = crowd << (1 << lamp)
        if not (bar[0] >> lamp) & 1:
            crowd = crowd | lit
        elif (bar[1] >> lamp) & 1:
            crowd = lit
    return crowd


def within(one, other):
    return one[0] & other[0] == other[0] and one[1] & other[0] == other[1]


def both(one, other):
    common = one[0] & other[0]
    if one[1] & common != other[1] & common:
        return None
    return (one[0] | other[0], one[1] | other[1])


def asked_by(bar):
    return [lamp for lamp in range(bar[0].bit_length()) if (bar[0] >> lamp) & 1]


def without(bar, lamp):
    others = ~(1 << lamp)
    return (bar[0] & others, bar[1] & others)


def shut_out(many, bars):
    crowd = 0
    for bar in bars:
        crowd = crowd | crowd_of(many, bar)
    return crowd


def kept(many, bars):
    return all_stands(many) & ~shut_out(many, bars)
