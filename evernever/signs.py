"""Bars written as texts, read from texts, and told as formulas."""

from evernever.bars import asked_by
from evernever.errors import NoBar
from evernever.formulas import And, Lamp, Not, Or, Sure

LONGEST = 6


def sign_for(bar, lamp):
    if not (bar[0] >> lamp) & 1:
        return "-"
    return "1" if (bar[1] >> lamp) & 1 else "0"


def shown_bar(many, bar):
    return "".join([sign_for(bar, lamp) for lamp in range(many)])


def read_bar(text):
    if len(text) < 1 or len(text) > LONGEST:
        raise NoBar("a bar has one to six signs")
    asked = 0
    lit = 0
    for lamp, sign in enumerate(text):
        if sign not in ("0", "1", "-"):
            raise NoBar(f"{sign!r} has no place in a bar")
        if sign != "-":
            asked = asked | (1 << lamp)
        if sign == "1":
            lit = lit | (1 << lamp)
    return (asked, lit)


def formula_outside(bar):
    parts = []
    for lamp in asked_by(bar):
        parts.append(Not(Lamp(lamp)) if (bar[1] >> lamp) & 1 else Lamp(lamp))
    if len(parts) == 0:
        return Sure(False)
    return parts[0] if len(parts) == 1 else Or(parts)


def formula_of(bars):
    parts = [formula_outside(bar) for bar in bars]
    if len(parts) == 0:
        return Sure(True)
    return parts[0] if len(parts) == 1 else And(parts)
