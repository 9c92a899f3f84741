"""The hunt: an answer for a chart, by frames alone."""

from evernever.bars import bar_of
from evernever.crowds import least
from evernever.frames import Frames
from evernever.shutting import widened


def shut_stand(chart, frames, diary, k, stand):
    bar = widened(chart, frames.crowd(k - 1), bar_of(chart.many, stand))
    frames.shut(k, bar)
    diary.append(("shut", k, bar))


def way_to(chart, frames, diary, bad):
    # The stands that are being asked: the first of the last frame, each other one of the frame ahead of
    # the one before it. A list in the place of calls within one another, which grow deep as frames grow many.
    asked = [bad]
    while len(asked) > 0:
        k = frames.last() + 1 - len(asked)
        stand = asked[-1]
        itself = 1 << stand
        sources = frames.crowd(k - 1) & chart.behind(itself) & ~itself
        if sources == 0:
            shut_stand(chart, frames, diary, k, stand)
            asked.pop()
        elif k == 1:
            return [least(sources)] + list(reversed(asked))
        else:
            asked.append(least(sources))
    return None


def way_while_clearing(chart, frames, diary):
    found = frames.crowd(frames.last()) & chart.bads
    while found:
        way = way_to(chart, frames, diary, least(found))
        if way is not None:
            return way
        found = frames.crowd(frames.last()) & chart.bads
    return None


def grow(frames, diary):
    frames.add_frame()
    diary.append(("add", frames.last()))
    for k, bar in frames.push():
        diary.append(("push", k, bar))


def hunt(chart):
    diary = []
    found = chart.starts & chart.bads
    if found:
        return (diary, ("ever", [least(found)]))
    frames = Frames(chart)
    way = way_while_clearing(chart, frames, diary)
    while way is None:
        grow(frames, diary)
        k = frames.still()
        if k is not None:
            return (diary, ("never", frames.bars(k)))
        way = way_while_clearing(chart, frames, diary)
    return (diary, ("ever", way))
