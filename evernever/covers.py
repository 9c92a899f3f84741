"""Covers: a crowd told as bars."""

from evernever.bars import asked_by, bar_of, crowd_of, shut_out, without
from evernever.crowds import least


def widest(many, crowd, bar):
    # Once is enough for each lamp: one that cannot go cannot go from a wider bar either.
    found = bar
    for lamp in asked_by(bar):
        wider = without(found, lamp)
        if crowd_of(many, wider) & ~crowd == 0:
            found = wider
    return found


def needed(many, bars):
    # Once is enough for each bar: one that is needed among many is needed among fewer.
    stay = list(bars)
    for bar in bars:
        others = [other for other in stay if other != bar]
        if crowd_of(many, bar) & ~shut_out(many, others) == 0:
            stay = others
    return stay


def cover(many, crowd):
    bars = []
    left = crowd
    while left:
        bar = widest(many, crowd, bar_of(many, least(left)))
        bars.append(bar)
        left = left & ~crowd_of(many, bar)
    return sorted(needed(many, bars))
