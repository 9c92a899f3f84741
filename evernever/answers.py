"""The answer for a chart: a way to a bad stand, or a tight fence."""

from evernever.fences import tight
from evernever.hunts import hunt


def answer(chart):
    end = hunt(chart)[1]
    if end[0] == "ever":
        return end
    return ("never", tight(chart, end[1]))
