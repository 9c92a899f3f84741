"""Charts: what counts of a machine."""

from evernever.crowds import all_stands
from evernever.errors import NoChart


def is_whole(thing):
    return isinstance(thing, int) and not isinstance(thing, bool)


def is_crowd(thing, many):
    return is_whole(thing) and 0 <= thing <= all_stands(many)


def is_chart(many, starts, bads, after):
    # The bounds of many come first: the stands of a great number of lamps can't be counted.
    if not is_whole(many) or many < 1 or many > 6:
        return False
    if not is_crowd(starts, many) or not is_crowd(bads, many):
        return False
    if not isinstance(after, list) or len(after) != 1 << many:
        return False
    return all([is_crowd(crowd, many) for crowd in after])


class Chart:
    def __init__(self, many, starts, bads, after):
        if not is_chart(many, starts, bads, after):
            raise NoChart("no chart can be made of these")
        self.many = many
        self.starts = starts
        self.bads = bads
        # A copy, since the asker may change the list later.
        self.after = tuple(after)

    def ahead(self, crowd):
        found = 0
        for stand, onto in enumerate(self.after):
            if (crowd >> stand) & 1:
                found = found | onto
        return found

    def behind(self, crowd):
        found = 0
        for stand, onto in enumerate(self.after):
            if onto & crowd:
                found = found | (1 << stand)
        return found
