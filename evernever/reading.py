"""Formulas read from texts."""

from evernever.errors import NoFormula
from evernever.formulas import And, Either, Lamp, Not, Or, Sure
from evernever.words import words

JOINS = ("and", "either", "or")


def and_of(parts):
    return parts[0] if len(parts) == 1 else And(parts)


def either_of(parts):
    return parts[0] if len(parts) == 1 else Either(parts)


def or_of(parts):
    return parts[0] if len(parts) == 1 else Or(parts)


def single(word, names):
    if word == "yes":
        return Sure(True)
    if word == "no":
        return Sure(False)
    if word in names:
        return Lamp(names.index(word))
    raise NoFormula(f"{word!r} has no place there")


# A level is what has been read behind one bracket, its parts not joined yet. Levels are kept in
# a list, so that no text can lie too deep for calls within one another.


class Level:
    def __init__(self):
        self.nots = 0
        self.ands = []
        self.eithers = []
        self.ors = []
        self.lacking = True

    def take_part(self, part):
        for turn in range(self.nots):
            part = Not(part)
        self.nots = 0
        self.ands.append(part)
        self.lacking = False

    def take_join(self, word):
        # A looser word ends what the closer ones have gathered.
        if word != "and":
            self.eithers.append(and_of(self.ands))
            self.ands = []
        if word == "or":
            self.ors.append(either_of(self.eithers))
            self.eithers = []
        self.lacking = True

    def take_word(self, word, names):
        if self.lacking and word == "not":
            self.nots = self.nots + 1
        elif self.lacking:
            self.take_part(single(word, names))
        elif word in JOINS:
            self.take_join(word)
        else:
            raise NoFormula(f"{word!r} stands behind a part")

    def whole(self):
        self.take_join("or")
        return or_of(self.ors)


def formula_in(found, names):
    levels = [Level()]
    for word in found:
        level = levels[-1]
        if word == "(" and level.lacking:
            levels.append(Level())
        elif word == ")" and not level.lacking and len(levels) > 1:
            levels.pop()
            levels[-1].take_part(level.whole())
        else:
            level.take_word(word, names)
    # As long as a bracket is open, the level round it lacks the part that it begins.
    if levels[0].lacking:
        raise NoFormula("the formula ends too early")
    return levels[0].whole()


def read(text, names):
    found = words(text)
    if found is None:
        raise NoFormula("a sign that has no place in a formula")
    return formula_in(found, names)
