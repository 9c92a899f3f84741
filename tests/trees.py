"""Formulas told as tuples, and what is due of them, worked out apart from the program.

A tree is ("lamp", number), ("sure", truth), ("not", tree),
or ("and" | "or" | "either", tree, tree, ...).
"""

import random

from evernever.formulas import And, Either, Lamp, Not, Or, Sure

A, B, C, D, E, F = [("lamp", at) for at in range(6)]
YES, NO = ("sure", True), ("sure", False)
NAMES = ["a", "b", "c", "d", "e", "f"]

JOINS = {"and": And, "or": Or, "either": Either}

BRACKETS = {
    ("not", "and"), ("not", "either"), ("not", "or"),
    ("and", "and"), ("and", "either"), ("and", "or"),
    ("either", "either"), ("either", "or"),
    ("or", "or"),
}


def built(tree):
    sort, *rest = tree
    if sort == "lamp":
        return Lamp(rest[0])
    if sort == "sure":
        return Sure(rest[0])
    if sort == "not":
        return Not(built(rest[0]))
    return JOINS[sort]([built(part) for part in rest])


def due_truth(tree, stand):
    sort, *rest = tree
    if sort == "lamp":
        return f"{stand:064b}"[::-1][rest[0]] == "1"
    if sort == "sure":
        return rest[0]
    holding = [due_truth(part, stand) for part in rest].count(True)
    if sort == "not":
        return holding == 0
    if sort == "and":
        return holding == len(rest)
    if sort == "or":
        return holding >= 1
    return holding in range(1, len(rest) + 1, 2)


def due_crowd(tree, many):
    return sum(2 ** stand for stand in range(2 ** many) if due_truth(tree, stand))


def due_lamps(tree):
    sort, *rest = tree
    if sort == "lamp":
        return [rest[0]]
    if sort == "sure":
        return []
    return sorted({at for part in rest for at in due_lamps(part)})


def due_text(tree, names):
    sort, *rest = tree
    if sort == "lamp":
        return names[rest[0]]
    if sort == "sure":
        return {True: "yes", False: "no"}[rest[0]]
    texts = []
    for part in rest:
        text = due_text(part, names)
        texts.append("(" + text + ")" if (sort, part[0]) in BRACKETS else text)
    return "not " + texts[0] if sort == "not" else (" " + sort + " ").join(texts)


def manys(tree):
    """Each many from 1 to 6 that is above the number of each lamp of the tree."""
    return range(max(due_lamps(tree), default=0) + 1, 7)


LEAVES = [A, B, C, D, E, F, YES, NO]

FLAT = (
    [("not", leaf) for leaf in LEAVES]
    + [(sort, one, other) for sort in JOINS for one in LEAVES for other in LEAVES]
    + [(sort, one, other, third) for sort in JOINS
       for one in (A, C, YES) for other in (A, B, NO) for third in (C, F, YES)]
    + [(sort, *LEAVES[:many]) for sort in JOINS for many in (4, 5, 6)]
    + [(sort, A, A, A, A) for sort in JOINS]
    + [(sort, B, A, B, A, B) for sort in JOINS]
)

# One or two of each sort, to stand within others.
INNER = [
    A, D, YES, NO, ("not", B), ("not", ("not", C)),
    ("and", A, B), ("or", B, ("not", C)), ("either", A, B, C),
]

NESTED = (
    [("not", inner) for inner in INNER]
    + [(sort, one, other) for sort in JOINS for one in INNER for other in INNER]
    + [(sort, one, E, other) for sort in JOINS for one in INNER for other in INNER]
    + [(outer, (middle, one, F), ("not", (middle, A, one)))
       for outer in JOINS for middle in JOINS for one in INNER]
)

TREES = LEAVES + FLAT + NESTED


def deepest(text):
    """How many brackets are open at once, at most."""
    found = [0]
    for sign in text:
        found.append(found[-1] + (sign == "(") - (sign == ")"))
    return max(found)


def nots_side_by_side(text):
    found = [0]
    for word in text.replace("(", " ( ").replace(")", " ) ").split():
        found.append(found[-1] + 1 if word == "not" else 0)
    return max(found)


def drawn_tree(draw, deep, lamps=6):
    if deep == 0 or draw.random() < 0.2:
        return draw.choice([("lamp", draw.randrange(lamps))] * 4 + [YES, NO])
    sort = draw.choice(["not", "and", "either", "or"])
    many = 1 if sort == "not" else draw.choice([2, 2, 3, 4])
    return (sort, *[drawn_tree(draw, deep - 1, lamps) for _ in range(many)])


def drawn_trees(seed, many, deep):
    draw = random.Random(seed)
    found = []
    while len(found) < many:
        tree = drawn_tree(draw, deep)
        text = due_text(tree, NAMES)
        if len(text) <= 4000 and deepest(text) <= 8 and nots_side_by_side(text) <= 4:
            found.append(tree)
    return found


def with_blanks(draw, text):
    """The same words, with any number of blanks between them and beside brackets and commas."""
    for mark in "(),":
        text = text.replace(mark, " " * draw.randrange(3) + mark + " " * draw.randrange(3))
    words = text.split(" ")
    text = "".join(word + " " * draw.randrange(1, 4) for word in words)
    return " " * draw.randrange(3) + text
