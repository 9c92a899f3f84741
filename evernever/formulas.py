"""Formulas: where they hold, which lamps they have, and how they are written."""

from evernever.crowds import all_stands

# Formulas lie deep in one another. So the methods call those of their parts
# straight out of a plain loop: one call for each depth, and no more.


def bracketed(part, text, bound):
    return f"({text})" if part.looseness() >= bound else text


class Formula:
    def looseness(self):
        # How loosely it binds; 0 is for what never needs brackets.
        return 0


class Lamp(Formula):
    def __init__(self, at):
        self.at = at

    def holds(self, stand):
        return (stand >> self.at) & 1 == 1

    def crowd(self, many):
        found = 0
        for stand in range(1 << many):
            if self.holds(stand):
                found = found | (1 << stand)
        return found

    def lamps(self):
        return [self.at]

    def shown(self, names):
        return names[self.at]


class Sure(Formula):
    def __init__(self, truth):
        self.truth = truth

    def holds(self, stand):
        return self.truth

    def crowd(self, many):
        return all_stands(many) if self.truth else 0

    def lamps(self):
        return []

    def shown(self, names):
        return "yes" if self.truth else "no"


class Not(Formula):
    def __init__(self, part):
        self.part = part

    def holds(self, stand):
        return not self.part.holds(stand)

    def crowd(self, many):
        return all_stands(many) ^ self.part.crowd(many)

    def lamps(self):
        return self.part.lamps()

    def shown(self, names):
        text = bracketed(self.part, self.part.shown(names), 1)
        return f"not {text}"


class Joined(Formula):
    def __init__(self, parts):
        # A copy, since the asker may change the list later.
        self.parts = tuple(parts)

    def lamps(self):
        found = []
        for part in self.parts:
            found.extend(part.lamps())
        return sorted(set(found))

    def shown(self, names):
        texts = []
        for part in self.parts:
            texts.append(bracketed(part, part.shown(names), self.looseness()))
        return self.between().join(texts)


class And(Joined):
    def looseness(self):
        return 1

    def between(self):
        return " and "

    def holds(self, stand):
        for part in self.parts:
            if not part.holds(stand):
                return False
        return True

    def crowd(self, many):
        found = all_stands(many)
        for part in self.parts:
            found = found & part.crowd(many)
        return found


class Either(Joined):
    def looseness(self):
        return 2

    def between(self):
        return " either "

    def holds(self, stand):
        odd = False
        for part in self.parts:
            if part.holds(stand):
                odd = not odd
        return odd

    def crowd(self, many):
        found = 0
        for part in self.parts:
            found = found ^ part.crowd(many)
        return found


class Or(Joined):
    def looseness(self):
        return 3

    def between(self):
        return " or "

    def holds(self, stand):
        for part in self.parts:
            if part.holds(stand):
                return True
        return False

    def crowd(self, many):
        found = 0
        for part in self.parts:
            found = found | part.crowd(many)
        return found
