"""Fences: lists of bars that no step crosses; and ways."""

from evernever.bars import asked_by, crowd_of, shut_out, without
from evernever.crowds import least
from evernever.errors import NoFence


def first_crossing(chart, inside):
    sources = chart.behind(inside) & ~inside
    if sources == 0:
        return None
    stand = least(sources)
    return ("step", stand, least(chart.ahead(1 << stand) & inside))


def fault_of_crowd(chart, inside):
    # Of bars only this counts: which stands lie in one or more of them.
    if chart.starts & inside:
        return ("start", least(chart.starts & inside))
    step = first_crossing(chart, inside)
    if step is not None:
        return step
    missed = chart.bads & ~inside
    if missed:
        return ("bad", least(missed))
    return None


def fault(chart, bars):
    return fault_of_crowd(chart, shut_out(chart.many, bars))


def is_fence(chart, bars):
    return fault(chart, bars) is None


def wider_bar(chart, inside, bar):
    found = bar
    for lamp in asked_by(bar):
        fewer = without(found, lamp)
        # Other bars keep what they had, so the stands of the wider bar come to those inside.
        if fault_of_crowd(chart, inside | crowd_of(chart.many, fewer)) is None:
            found = fewer
    return found


def with_fewer_lamps(chart, bars):
    inside = shut_out(chart.many, bars)
    found = []
    for bar in bars:
        fewer = wider_bar(chart, inside, bar)
        inside = inside | crowd_of(chart.many, fewer)
        found.append(fewer)
    return found


def with_fewer_bars(chart, bars):
    found = list(bars)
    for bar in bars:
        others = [other for other in found if other != bar]
        if is_fence(chart, others):
            found = others
    return found


def tight(chart, bars):
    if not is_fence(chart, bars):
        raise NoFence("the bars are no fence")
    # What had to stay in one pass can perhaps go in the next.
    found = sorted(set(bars))
    fewer = with_fewer_lamps(chart, found)
    while fewer != found:
        found = fewer
        fewer = with_fewer_lamps(chart, found)
    found = sorted(set(found))
    fewer = with_fewer_bars(chart, found)
    while fewer != found:
        found = fewer
        fewer = with_fewer_bars(chart, found)
    return found


def is_stand(chart, number):
    return 0 <= number and number < 1 << chart.many


def is_way(chart, way):
    if len(way) == 0 or not all([is_stand(chart, stand) for stand in way]):
        return False
    if not (chart.starts >> way[0]) & 1 or not (chart.bads >> way[-1]) & 1:
        return False
    for one, other in zip(way, way[1:]):
        if not (chart.ahead(1 << one) >> other) & 1:
            return False
    return True
