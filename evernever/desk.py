"""The desk: a machine that is told line by line, and asked."""

from evernever.answers import answer
from evernever.bars import bar_of
from evernever.covers import cover
from evernever.errors import NoFence, NoLine, NoMachine, NothingLeft, TooMany
from evernever.floods import reached
from evernever.lines import check_form, names_in, thing_in, words_of_line, written
from evernever.machines import Machine
from evernever.reading import formula_in
from evernever.signs import formula_of, shown_bar

SORTS = ("start", "bad", "move")
ALONE = ("show", "judge", "fence", "reach")
MOST = 8


def check_line(found):
    first = found[0]
    if first in ALONE:
        if len(found) > 1:
            raise NoLine(f"nothing stands behind {first}")
    elif first == "drop":
        if len(found) != 2 or found[1] not in SORTS:
            raise NoLine("start, bad or move stands behind drop")
    elif first == "lamps" or first in SORTS:
        check_form(found)
    elif first != "always":
        raise NoLine(f"no line begins with {first!r}")


def things_of(machine):
    return {"start": list(machine.starts), "bad": list(machine.bads), "move": list(machine.moves)}


def with_things(machine, things):
    return Machine(machine.names, things["start"], things["bad"], things["move"])


def added(machine, found):
    thing = thing_in(found, machine.names)
    things = things_of(machine)
    if len(things[found[0]]) >= MOST:
        raise TooMany("there are eight of these already")
    things[found[0]].append(thing)
    return with_things(machine, things)


def dropped(machine, sort):
    things = things_of(machine)
    if len(things[sort]) == 0:
        raise NothingLeft(f"there is no {sort} to drop")
    things[sort].pop()
    return with_things(machine, things)


def shown_bars(machine, bars):
    return ", ".join([shown_bar(len(machine.names), bar) for bar in bars])


def shown_stand(machine, stand):
    many = len(machine.names)
    return shown_bar(many, bar_of(many, stand))


def shown_way(machine, way):
    texts = [shown_stand(machine, way[0])]
    for one, other in zip(way, way[1:]):
        texts.append(str(machine.which(one, other) + 1))
        texts.append(shown_stand(machine, other))
    return " ".join(texts)


def judged(machine):
    told = answer(machine.chart())
    if told[0] == "ever":
        return "ever " + shown_way(machine, told[1])
    if len(told[1]) == 0:
        return "never"
    return "never " + shown_bars(machine, told[1])


def fenced(machine):
    told = answer(machine.chart())
    if told[0] == "ever":
        raise NoFence("a bad stand is reached")
    return formula_of(told[1]).shown(machine.names)


def held_always(machine, found):
    formula = formula_in(found[1:], machine.names)
    outside = reached(machine.chart()) & ~formula.crowd(len(machine.names))
    return "yes" if outside == 0 else "no"


def shown_reach(machine):
    crowd = reached(machine.chart())
    if crowd == 0:
        return "none"
    return shown_bars(machine, cover(len(machine.names), crowd))


def told_of(machine, found):
    if found[0] == "show":
        return "; ".join(written(machine))
    if found[0] == "judge":
        return judged(machine)
    if found[0] == "fence":
        return fenced(machine)
    if found[0] == "reach":
        return shown_reach(machine)
    return held_always(machine, found)


class Desk:
    def __init__(self):
        self.machine = None

    def say(self, line):
        found = words_of_line(line)
        check_line(found)
        if found[0] == "lamps":
            self.machine = Machine(names_in(found), [], [], [])
            return "ok"
        if self.machine is None:
            raise NoMachine("no lamps line has been said")
        if found[0] in SORTS:
            self.machine = added(self.machine, found)
            return "ok"
        if found[0] == "drop":
            self.machine = dropped(self.machine, found[1])
            return "ok"
        return told_of(self.machine, found)
