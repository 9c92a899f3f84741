"""Things drawn by a fixed seed, and what is due of them, worked out stand by stand, apart from the program."""

import collections
import random
import re
import unittest

from evernever import errors
from evernever.charts import Chart
from evernever.machines import Machine, Move
from trees import built, drawn_tree, due_text, due_truth

REFUSALS = [
    errors.NoFormula, errors.NoChart, errors.NoStep, errors.NoLine, errors.NoName, errors.NoBar,
    errors.NotShut, errors.NoFrame, errors.NoFence, errors.NoMachine, errors.NothingLeft, errors.TooMany,
]


class Case(unittest.TestCase):
    def refused(self, due, deed, *handed):
        """The deed is refused with the class that is due, and with none of the other eleven."""
        try:
            told = deed(*handed)
        except errors.EverError as error:
            self.assertIsInstance(error, ValueError)
            met = [refusal.__name__ for refusal in REFUSALS if isinstance(error, refusal)]
            self.assertEqual(met, [due.__name__], handed)
        else:
            self.fail(f"{handed!r} is not refused, but told as {told!r}")

    def whole(self, thing):
        self.assertIs(type(thing), int)


def crowd_in(stands):
    return sum(2 ** stand for stand in set(stands))


def stands_of(crowd):
    return [stand for stand, bit in enumerate(reversed(f"{crowd:b}")) if bit == "1"]


# Starts and bads are sets of stands, steps a list with a set of stands for each stand.
Plain = collections.namedtuple("Plain", "many starts bads steps")


def chart_of(plain):
    after = [crowd_in(onto) for onto in plain.steps]
    return Chart(plain.many, crowd_in(plain.starts), crowd_in(plain.bads), after)


def few_of(draw, things):
    """None of the things, one, two, or any."""
    many = draw.choice([0, 1, 1, 1, 2, 2, draw.randrange(len(things) + 1)])
    return set(draw.sample(things, min(many, len(things))))


def drawn_steps(draw, size):
    stands = list(range(size))
    sort = draw.choice(["none", "few", "few", "few", "some", "many", "row", "ring", "self"])
    if sort == "none":
        return [set() for stand in stands]
    if sort == "few":
        return [set(draw.sample(stands, min(size, draw.choice([0, 1, 1, 1, 2])))) for stand in stands]
    if sort == "some":
        return [few_of(draw, stands) for stand in stands]
    if sort == "many":
        return [set(draw.sample(stands, draw.randrange(size // 2, size + 1))) for stand in stands]
    draw.shuffle(stands)
    steps = [set() for stand in stands]
    for one, other in zip(stands, stands[1:]):
        steps[one].add(other)
    if sort != "row":
        steps[stands[-1]].add(stands[0])
    if sort == "self":
        for stand in few_of(draw, stands):
            steps[stand].add(stand)
    return steps


def drawn(draw, many):
    stands = list(range(2 ** many))
    return Plain(many, few_of(draw, stands), few_of(draw, stands), drawn_steps(draw, len(stands)))


def drawn_charts(seed, often):
    """So many drawn charts for each number of lamps: often[0] of one lamp, and so on."""
    draw = random.Random(seed)
    return [drawn(draw, many) for many, times in enumerate(often, start=1) for turn in range(times)]


def ring(many, starts, bads):
    size = 2 ** many
    return Plain(many, set(starts), set(bads), [{(stand + 1) % size} for stand in range(size)])


def row(many, starts, bads):
    size = 2 ** many
    return Plain(many, set(starts), set(bads),
                 [{stand + 1} if stand + 1 < size else set() for stand in range(size)])


def distances(plain):
    """The least number of steps from a start to each stand that is reached, by a plain queue."""
    found = {start: 0 for start in plain.starts}
    queue = collections.deque(sorted(plain.starts))
    while queue:
        stand = queue.popleft()
        for onto in sorted(plain.steps[stand]):
            if onto not in found:
                found[onto] = found[stand] + 1
                queue.append(onto)
    return found


def due_nearest(plain):
    found = distances(plain)
    return min([found[stand] for stand in found if stand in plain.bads], default=None)


# Starts and bads are lists of trees, moves a list of tuples (tree, [(lamp, tree), ..]).
PlainMachine = collections.namedtuple("PlainMachine", "names starts bads moves")

NAME_LISTS = [
    ["a", "b", "c", "d", "e", "f"], ["z", "zz", "abcdefgh", "q", "zzz", "ab"],
    ["nota", "orb", "isa", "thena", "yess", "noo"], ["lamps", "start", "bad", "move", "drop", "show"],
    ["judge", "fence", "always", "reach", "none", "never"],
]


def move_of(guard, changes):
    return Move(built(guard), [(lamp, built(tree)) for lamp, tree in changes])


def machine_from(plain):
    return Machine(
        list(plain.names), [built(tree) for tree in plain.starts], [built(tree) for tree in plain.bads],
        [move_of(guard, changes) for guard, changes in plain.moves],
    )


def drawn_move(draw, many):
    lamps = draw.sample(range(many), draw.randrange(1, many + 1))
    guard = drawn_tree(draw, draw.choice([0, 1, 2]), many)
    return guard, [(lamp, drawn_tree(draw, draw.choice([0, 1, 2]), many)) for lamp in lamps]


def single_stand(stand, many):
    """The tree that holds at this stand alone."""
    parts = [("lamp", lamp) if stand >> lamp & 1 else ("not", ("lamp", lamp)) for lamp in range(many)]
    return parts[0] if many == 1 else ("and", *parts)


def drawn_formulas(draw, many):
    often = draw.choice([0, 1, 1, 1, 2, 3, 8])
    if draw.random() < 0.6:
        return [single_stand(draw.randrange(2 ** many), many) for _ in range(often)]
    return [drawn_tree(draw, draw.choice([0, 1, 2]), many) for _ in range(often)]


def drawn_literals(draw, many):
    """A tree that asks for one or more lamps."""
    lamps = draw.sample(range(many), draw.randrange(1, many + 1))
    parts = [draw.choice([("lamp", lamp), ("not", ("lamp", lamp))]) for lamp in lamps]
    return parts[0] if len(parts) == 1 else ("and", *parts)


def drawn_walk(draw, many):
    """A machine that goes in small steps, from one start, with one bad stand."""
    moves = []
    for _ in range(draw.randrange(1, 9)):
        lamps = draw.sample(range(many), min(many, draw.choice([1, 1, 2])))
        changes = [(lamp, draw.choice([("sure", True), ("sure", False), ("not", ("lamp", lamp))])) for lamp in lamps]
        moves.append((drawn_literals(draw, many), changes))
    start, bad = [single_stand(draw.randrange(2 ** many), many) for _ in range(2)]
    return PlainMachine(draw.choice(NAME_LISTS)[:many], [start], [bad], moves)


def drawn_machine(draw, many):
    if draw.random() < 0.4:
        return drawn_walk(draw, many)
    names = draw.choice(NAME_LISTS)[:many]
    moves = [drawn_move(draw, many) for _ in range(draw.choice([0, 1, 1, 2, 3, 4, 8]))]
    return PlainMachine(names, drawn_formulas(draw, many), drawn_formulas(draw, many), moves)


def drawn_machines(seed, often):
    draw = random.Random(seed)
    return [drawn_machine(draw, many) for many, times in enumerate(often, start=1) for turn in range(times)]


def due_onward(move, stand):
    lit = {lamp for lamp in range(6) if stand >> lamp & 1} - {lamp for lamp, tree in move[1]}
    return sum(2 ** lamp for lamp in lit | {lamp for lamp, tree in move[1] if due_truth(tree, stand)})


def due_chart(plain):
    stands = range(2 ** len(plain.names))
    return Plain(
        len(plain.names),
        {stand for stand in stands if any(due_truth(tree, stand) for tree in plain.starts)},
        {stand for stand in stands if any(due_truth(tree, stand) for tree in plain.bads)},
        [{due_onward(move, stand) for move in plain.moves if due_truth(move[0], stand)} for stand in stands],
    )


def due_move_line(move, names):
    pieces = [f"{names[lamp]} is {due_text(tree, names)}" for lamp, tree in move[1]]
    return f"move {due_text(move[0], names)} then {', '.join(pieces)}"


def due_lines(plain):
    lines = ["lamps " + " ".join(plain.names)]
    lines += ["start " + due_text(tree, plain.names) for tree in plain.starts]
    lines += ["bad " + due_text(tree, plain.names) for tree in plain.bads]
    return lines + [due_move_line(move, plain.names) for move in plain.moves]


def words_of(text):
    return None if re.search("[^a-z(), ]", text) else re.findall("[a-z]+|[(),]", text)


def shrunk(words, names):
    """What is left of the words when what a formula is made of is put together as long as that can be done."""
    marks = {"not": "n", "and": "j", "either": "j", "or": "j", "(": "(", ")": ")", "yes": "x", "no": "x"}
    marks.update({name: "x" for name in names})
    text = "".join(marks.get(word, "?") for word in words)
    before = None
    while text != before:
        before = text
        for made in ("nx", "xjx", "(x)"):
            text = text.replace(made, "x")
    return text


EIGHT = ["and", "or", "not", "either", "yes", "no", "then", "is"]


def faults_of_lamps(behind):
    found = set()
    if not 1 <= len(behind) <= 6:
        found.add(errors.NoLine)
    if len(set(behind)) < len(behind) or not all(re.fullmatch("[a-z]{1,8}", word) for word in behind):
        found.add(errors.NoName)
    if set(behind) & set(EIGHT):
        found.add(errors.NoName)
    return found


def faults_of_move(behind, names):
    if behind.count("then") != 1:
        return {errors.NoLine}
    guard, changes = [part.split() for part in " ".join([""] + behind + [""]).split(" then ")]
    pieces = [piece.split() for piece in " ".join(changes).split(",")]
    found = set()
    if any(len(piece) < 2 or piece[1] != "is" for piece in pieces):
        found.add(errors.NoLine)
    firsts = [piece[0] for piece in pieces if piece]
    if set(firsts) - set(names) or len(set(firsts)) < len(firsts):
        found.add(errors.NoName)
    if any(shrunk(words, names) != "x" for words in [guard] + [piece[2:] for piece in pieces]):
        found.add(errors.NoFormula)
    return found


def faults_of_line(line, names):
    """All faults of a lamps, start, bad or move line; of another one NoLine."""
    words = words_of(line)
    if not words or words[0] not in ("lamps", "start", "bad", "move"):
        return {errors.NoLine}
    if words[0] == "lamps":
        return faults_of_lamps(words[1:])
    if words[0] == "move":
        return faults_of_move(words[1:], names)
    return set() if shrunk(words[1:], names) == "x" else {errors.NoFormula}


def first_of(faults, order):
    return next((fault for fault in order if fault in faults), None)


def changed_words(draw, words, more):
    """The words with one missing, one too many, or one in the place of another."""
    place = draw.randrange(len(words) + 1)
    return draw.choice([
        words[:place] + words[place + 1:],
        words[:place] + [draw.choice(more)] + words[place:],
        words[:place] + [draw.choice(more)] + words[place + 1:],
    ])


def due_lies(stand, bar):
    """Whether a stand lies in a bar, lamp by lamp."""
    for lamp in range(6):
        asked, must, lit = [number // 2 ** lamp % 2 == 1 for number in (bar[0], bar[1], stand)]
        if asked and must != lit:
            return False
    return True


def all_bars(many):
    return [(asked, lit) for asked in range(2 ** many) for lit in range(2 ** many) if asked | lit == asked]


def drawn_bar(draw, many):
    asked = crowd_in(draw.sample(range(many), draw.randrange(many + 1)))
    return asked, asked & draw.randrange(2 ** many)


def stands_in_bar(bar, many):
    return {stand for stand in range(2 ** many) if due_lies(stand, bar)}


def leads_into(plain, stands, inside):
    """Whether a step leads from one of the stands to one of those inside."""
    return any(plain.steps[stand] & inside for stand in stands)


def due_may_shut(plain, held, bar):
    inside = stands_in_bar(bar, plain.many)
    return not plain.starts & inside and not leads_into(plain, set(held) - inside, inside)


def lamps_asked(bar):
    return [lamp for lamp in range(6) if bar[0] // 2 ** lamp % 2 == 1]


def left_out(bar, lamps):
    """The bar with these lamps left out."""
    asked = [lamp for lamp in lamps_asked(bar) if lamp not in lamps]
    return crowd_in(asked), crowd_in(lamp for lamp in asked if bar[1] // 2 ** lamp % 2 == 1)


def as_wide_as_can_be(plain, held, bar):
    if not due_may_shut(plain, held, bar):
        return False
    return not any(due_may_shut(plain, held, left_out(bar, [lamp])) for lamp in lamps_asked(bar))


def due_kept(many, bars):
    return {stand for stand in range(2 ** many) if not any(due_lies(stand, bar) for bar in bars)}


class PlainFrames:
    """A set of bars for each frame, changed by the very words of points 23, 24 and 25."""

    def __init__(self, plain):
        self.plain = plain
        self.sets = [None, set()]

    def last(self):
        return len(self.sets) - 1

    def crowd(self, k):
        return set(self.plain.starts) if k == 0 else due_kept(self.plain.many, self.sets[k])

    def bars(self, k):
        return sorted(self.sets[k])

    def own(self, k):
        return sorted(self.sets[k] - (self.sets[k + 1] if k < self.last() else set()))

    def lies_within(self, one, other):
        return stands_in_bar(one, self.plain.many) <= stands_in_bar(other, self.plain.many)

    def refusal(self, k, bar):
        if not 1 <= k <= self.last():
            return errors.NoFrame
        return None if due_may_shut(self.plain, self.crowd(k - 1), bar) else errors.NotShut

    def shut(self, k, bar):
        if any(self.lies_within(bar, other) for other in self.sets[k]):
            return
        beyond = set().union(*self.sets[k + 1:])
        gone = {other for some in self.sets[1:] for other in some if self.lies_within(other, bar)} - beyond
        self.sets = [None] + [some - gone for some in self.sets[1:]]
        for number in range(1, k + 1):
            self.sets[number].add(bar)

    def add_frame(self):
        self.sets.append(set())

    def push(self):
        told = []
        for k in range(1, self.last()):
            for bar in self.own(k):
                if not leads_into(self.plain, self.crowd(k), stands_in_bar(bar, self.plain.many)):
                    self.sets[k + 1].add(bar)
                    told.append((k, bar))
        return told

    def still(self):
        return next((k for k in range(1, self.last()) if self.crowd(k) == self.crowd(k + 1)), None)


def due_fault(plain, bars):
    inside = set(range(2 ** plain.many)) - due_kept(plain.many, bars)
    outside = set(range(2 ** plain.many)) - inside
    for stand in sorted(plain.starts & inside):
        return "start", stand
    for stand in sorted(outside):
        for onto in sorted(plain.steps[stand] & inside):
            return "step", stand, onto
    for stand in sorted(plain.bads & outside):
        return "bad", stand
    return None


def is_tight(plain, bars):
    """Whether the bars are a fence, and none any more without a lamp of a bar or without a bar."""
    if due_fault(plain, bars) is not None:
        return False
    for at, bar in enumerate(bars):
        others = bars[:at] + bars[at + 1:]
        if due_fault(plain, others) is None:
            return False
        if any(due_fault(plain, others + [left_out(bar, [lamp])]) is None for lamp in lamps_asked(bar)):
            return False
    return True


def is_cover(many, stands, bars):
    """Whether just these stands lie in the bars, no lamp of a bar and no bar being needless."""
    inside = [stands_in_bar(bar, many) for bar in bars]
    if set().union(*inside) != set(stands):
        return False
    for at, bar in enumerate(bars):
        if inside[at] <= set().union(*inside[:at], *inside[at + 1:]):
            return False
        if any(stands_in_bar(left_out(bar, [lamp]), many) <= set(stands) for lamp in lamps_asked(bar)):
            return False
    return True


def due_is_way(plain, way):
    if not way or not all(0 <= stand < 2 ** plain.many for stand in way):
        return False
    steps = all(other in plain.steps[one] for one, other in zip(way, way[1:]))
    return way[0] in plain.starts and way[-1] in plain.bads and steps


def due_fence_text(bars, names):
    texts = []
    for bar in bars:
        parts = [("not " if bar[1] // 2 ** lamp % 2 else "") + names[lamp] for lamp in lamps_asked(bar)]
        text = " or ".join(parts) or "no"
        texts.append(f"({text})" if len(parts) > 1 and len(bars) > 1 else text)
    return " and ".join(texts) or "yes"


def due_signs(many, bar):
    signs = [str(bar[1] // 2 ** lamp % 2) if bar[0] // 2 ** lamp % 2 else "-" for lamp in range(many)]
    return "".join(signs)


def bar_by_signs(text):
    asked = [lamp for lamp, sign in enumerate(text) if sign != "-"]
    return crowd_in(asked), crowd_in(lamp for lamp in asked if text[lamp] == "1")
