"""Machines written as lines, and read from lines."""

from evernever.errors import NoLine, NoName
from evernever.machines import Machine, Move
from evernever.reading import formula_in
from evernever.words import words

MOST_LAMPS = 6
LONGEST_NAME = 8
NO_NAMES = ("and", "or", "not", "either", "yes", "no", "then", "is", "(", ")", ",")
SORTS = ("start", "bad", "move")


def written_move(move, names):
    pieces = []
    for lamp, formula in move.changes:
        pieces.append(names[lamp] + " is " + formula.shown(names))
    return "move " + move.guard.shown(names) + " then " + ", ".join(pieces)


def written(machine):
    names = list(machine.names)
    lines = ["lamps " + " ".join(names)]
    for formula in machine.starts:
        lines.append("start " + formula.shown(names))
    for formula in machine.bads:
        lines.append("bad " + formula.shown(names))
    for move in machine.moves:
        lines.append(written_move(move, names))
    return lines


def words_of_line(line):
    found = words(line)
    if found is None or len(found) == 0:
        raise NoLine("a line without words")
    return found


def parted_by_commas(found):
    pieces = [[]]
    for word in found:
        if word == ",":
            pieces.append([])
        else:
            pieces[-1].append(word)
    return pieces


def pieces_in(found):
    return parted_by_commas(found[found.index("then") + 1:])


def check_lamps(found):
    if len(found) < 2 or len(found) > MOST_LAMPS + 1:
        raise NoLine("one to six names stand behind lamps")


def check_move(found):
    if found.count("then") != 1:
        raise NoLine("a move has one word then")
    for piece in pieces_in(found):
        if len(piece) < 2 or piece[1] != "is":
            raise NoLine("a piece of a move is a name, the word is, and a formula")


def check_form(found):
    # Apart from names and formulas, since a desk without a machine looks at the form alone.
    if found[0] == "lamps":
        check_lamps(found)
    if found[0] == "move":
        check_move(found)


def names_in(found):
    names = found[1:]
    for at, name in enumerate(names):
        if name in NO_NAMES or len(name) > LONGEST_NAME:
            raise NoName(f"{name!r} cannot be a name")
        if name in names[:at]:
            raise NoName(f"{name!r} stands there twice")
    return names


def lamps_in(pieces, names):
    lamps = []
    for piece in pieces:
        name = piece[0]
        if name not in names or names.index(name) in lamps:
            raise NoName(f"{name!r} is no lamp's name, or changed twice")
        lamps.append(names.index(name))
    return lamps


def move_in(found, names):
    pieces = pieces_in(found)
    # The names of all pieces come first: a wrong one is told ahead of any wrong formula.
    lamps = lamps_in(pieces, names)
    guard = formula_in(found[1:found.index("then")], names)
    changes = []
    for lamp, piece in zip(lamps, pieces):
        changes.append((lamp, formula_in(piece[2:], names)))
    return Move(guard, changes)


def thing_in(found, names):
    if found[0] == "move":
        return move_in(found, names)
    return formula_in(found[1:], names)


def names_of_first(line):
    found = words_of_line(line)
    if found[0] != "lamps":
        raise NoLine("the first line is a lamps line")
    check_form(found)
    return names_in(found)


def machine_of(lines):
    if len(lines) == 0:
        raise NoLine("there is no line")
    names = names_of_first(lines[0])
    things = {}
    for sort in SORTS:
        things[sort] = []
    for line in lines[1:]:
        found = words_of_line(line)
        if found[0] not in SORTS:
            raise NoLine("a line begins with start, bad or move")
        check_form(found)
        things[found[0]].append(thing_in(found, names))
    return Machine(names, things["start"], things["bad"], things["move"])
