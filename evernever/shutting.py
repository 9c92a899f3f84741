"""Which bars may be shut, and how wide they can be."""

from evernever.bars import asked_by, crowd_of, without
from evernever.errors import NotShut


def may_shut(chart, held, bar):
    inside = crowd_of(chart.many, bar)
    if chart.starts & inside:
        return False
    return chart.behind(inside) & held & ~inside == 0


def without_one_lamp(chart, held, bar):
    for lamp in asked_by(bar):
        fewer = without(bar, lamp)
        if may_shut(chart, held, fewer):
            return fewer
    return None


def widened(chart, held, bar):
    if not may_shut(chart, held, bar):
        raise NotShut("the bar may not be shut")
    # All lamps are tried again behind each that went: one that had to stay perhaps can go then.
    found = bar
    further = without_one_lamp(chart, held, found)
    while further is not None:
        found = further
        further = without_one_lamp(chart, held, found)
    return found
