"""Machines: moves over lamps, with starts and bad stands."""

from evernever.charts import Chart
from evernever.errors import NoStep


def crowd_of_any(formulas, many):
    found = 0
    for formula in formulas:
        found = found | formula.crowd(many)
    return found


class Move:
    def __init__(self, guard, changes):
        self.guard = guard
        # A copy, since the asker may change the list later.
        self.changes = tuple(changes)

    def fits(self, stand):
        return self.guard.holds(stand)

    def onward(self, stand):
        found = stand
        for lamp, formula in self.changes:
            # Asked at the stand as it was, so that lamps can be swapped.
            if formula.holds(stand):
                found = found | (1 << lamp)
            else:
                found = found & ~(1 << lamp)
        return found


class Machine:
    def __init__(self, names, starts, bads, moves):
        self.names = tuple(names)
        self.starts = tuple(starts)
        self.bads = tuple(bads)
        self.moves = tuple(moves)

    def chart(self):
        many = len(self.names)
        after = [self.steps_from(stand) for stand in range(1 << many)]
        return Chart(many, crowd_of_any(self.starts, many), crowd_of_any(self.bads, many), after)

    def steps_from(self, stand):
        found = 0
        for move in self.moves:
            if move.fits(stand):
                found = found | (1 << move.onward(stand))
        return found

    def which(self, stand, other):
        for number, move in enumerate(self.moves):
            if move.fits(stand) and move.onward(stand) == other:
                return number
        return None

    def walked(self, stand, picks):
        passed = [stand]
        for pick in picks:
            if pick < 0 or pick >= len(self.moves):
                raise NoStep(f"there is no move {pick}")
            move = self.moves[pick]
            if not move.fits(passed[-1]):
                raise NoStep(f"move {pick} does not fit there")
            passed.append(move.onward(passed[-1]))
        return passed
