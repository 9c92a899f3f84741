"""The plain flood over all stands: what is reached, and how soon."""

from evernever.crowds import least


def layers(chart):
    found = [chart.starts]
    wider = chart.starts | chart.ahead(chart.starts)
    while wider != found[-1]:
        found.append(wider)
        wider = wider | chart.ahead(wider)
    return found


def reached(chart):
    return layers(chart)[-1]


def nearest(chart):
    for number, layer in enumerate(layers(chart)):
        if layer & chart.bads:
            return number
    return None


def shortest(chart):
    steps = nearest(chart)
    if steps is None:
        return None
    # The crowds from which a bad stand is just 0, 1, 2 .. steps away: a way that
    # passes them in turn is as short as can be, so the least stand of each will do.
    goals = [chart.bads]
    for step in range(steps):
        goals.append(chart.behind(goals[-1]))
    way = []
    choice = chart.starts
    for goal in reversed(goals):
        stand = least(choice & goal)
        way.append(stand)
        choice = chart.ahead(1 << stand)
    return way
