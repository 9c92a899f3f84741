"""Things drawn by a fixed seed, and what is due of them, worked out stand by stand, apart from the program."""

import collections
import random
import unittest

from evernever import errors
from evernever.charts import Chart

REFUSALS = [
    errors.NoFormula, errors.NoChart, errors.NoStep, errors.NoLine, errors.NoName, errors.NoBar,
    errors.NotShut, errors.NoFrame, errors.NoFence, errors.NoMachine, errors.NothingLeft, errors.TooMany,
]


class Case(unittest.TestCase):
    def refused(self, due, deed, *handed):
        """The deed is refused with the class that is due, and with none of the other eleven."""
        try:
            told = deed(*handed)
        except errors.EverError as error:
            self.assertIsInstance(error, ValueError)
            met = [refusal.__name__ for refusal in REFUSALS if isinstance(error, refusal)]
            self.assertEqual(met, [due.__name__], handed)
        else:
            self.fail(f"{handed!r} is not refused, but told as {told!r}")

    def whole(self, thing):
        self.assertIs(type(thing), int)


def crowd_in(stands):
    return sum(2 ** stand for stand in set(stands))


def stands_of(crowd):
    return [stand for stand, bit in enumerate(reversed(f"{crowd:b}")) if bit == "1"]


# Starts and bads are sets of stands, steps a list with a set of stands for each stand.
Plain = collections.namedtuple("Plain", "many starts bads steps")


def chart_of(plain):
    after = [crowd_in(onto) for onto in plain.steps]
    return Chart(plain.many, crowd_in(plain.starts), crowd_in(plain.bads), after)


def few_of(draw, things):
    """None of the things, one, two, or any."""
    many = draw.choice([0, 1, 1, 1, 2, 2, draw.randrange(len(things) + 1)])
    return set(draw.sample(things, min(many, len(things))))


def drawn_steps(draw, size):
    stands = list(range(size))
    sort = draw.choice(["none", "few", "few", "few", "some", "many", "row", "ring", "self"])
    if sort == "none":
        return [set() for stand in stands]
    if sort == "few":
        return [set(draw.sample(stands, min(size, draw.choice([0, 1, 1, 1, 2])))) for stand in stands]
    if sort == "some":
        return [few_of(draw, stands) for stand in stands]
    if sort == "many":
        return [set(draw.sample(stands, draw.randrange(size // 2, size + 1))) for stand in stands]
    draw.shuffle(stands)
    steps = [set() for stand in stands]
    for one, other in zip(stands, stands[1:]):
        steps[one].add(other)
    if sort != "row":
        steps[stands[-1]].add(stands[0])
    if sort == "self":
        for stand in few_of(draw, stands):
            steps[stand].add(stand)
    return steps


def drawn(draw, many):
    stands = list(range(2 ** many))
    return Plain(many, few_of(draw, stands), few_of(draw, stands), drawn_steps(draw, len(stands)))


def drawn_charts(seed, often):
    """So many drawn charts for each number of lamps: often[0] of one lamp, and so on."""
    draw = random.Random(seed)
    return [drawn(draw, many) for many, times in enumerate(often, start=1) for turn in range(times)]


def ring(many, starts, bads):
    size = 2 ** many
    return Plain(many, set(starts), set(bads), [{(stand + 1) % size} for stand in range(size)])


def row(many, starts, bads):
    size = 2 ** many
    return Plain(many, set(starts), set(bads), [{stand + 1} if stand + 1 < size else set() for stand in range(size)])


def distances(plain):
    """The least number of steps from a start to each stand that is reached, by a plain queue."""
    found = {start: 0 for start in plain.starts}
    queue = collections.deque(sorted(plain.starts))
    while queue:
        stand = queue.popleft()
        for onto in sorted(plain.steps[stand]):
            if onto not in found:
                found[onto] = found[stand] + 1
                queue.append(onto)
    return found


def due_nearest(plain):
    found = distances(plain)
    return min([found[stand] for stand in found if stand in plain.bads], default=None)
