"""The hunt: an answer for a chart, by frames alone."""

from evernever.bars import bar_of
from evernever.crowds import least
from evernever.frames import Frames
from evernever.shutting import widened


def shut_stand(chart, frames, diary, k, stand):
    """Shuts a bar in which the stand lies, as wide as can be, out of frame k."""
    bar = widened(chart, frames.crowd(k - 1), bar_of(chart.many, stand))
    frames.shut(k, bar)
    diary.append(("shut", k, bar))


def dealt_with(chart, frames, diary, bad):
    """Deals with a bad stand that is asked of the last frame: the way to it, or None where it is shut out."""
    # The stands that are being asked, each of the frame ahead of that of the one before it in the list.
    asked = [bad]
    while len(asked) > 0:
        k = frames.last() + 1 - len(asked)
        stand = asked[-1]
        itself = 1 << stand
        sources = frames.crowd(k - 1) & chart.behind(itself) & ~itself
        if sources == 0:
            shut_stand(chart, frames, diary, k, stand)
            asked.pop()
        elif k == 1:
            return [least(sources)] + list(reversed(asked))
        else:
            asked.append(least(sources))
    return None


def cleared(chart, frames, diary):
    """Clears the last frame of bad stands: a way to one of them, or None where it is cleared."""
    found = frames.crowd(frames.last()) & chart.bads
    while found:
        way = dealt_with(chart, frames, diary, least(found))
        if way is not None:
            return way
        found = frames.crowd(frames.last()) & chart.bads
    return None


def grow(frames, diary):
    frames.add_frame()
    diary.append(("add", frames.last()))
    for k, bar in frames.push():
        diary.append(("push", k, bar))


def hunt(chart):
    diary = []
    found = chart.starts & chart.bads
    if found:
        return (diary, ("ever", [least(found)]))
    frames = Frames(chart)
    way = cleared(chart, frames, diary)
    while way is None:
        grow(frames, diary)
        k = frames.still()
        if k is not None:
            return (diary, ("never", frames.bars(k)))
        way = cleared(chart, frames, diary)
    return (diary, ("ever", way))
