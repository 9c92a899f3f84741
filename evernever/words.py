"""Texts cut into words."""

LETTERS = "abcdefghijklmnopqrstuvwxyz"
MARKS = "(),"
BLANK = " "


def words(text):
    for sign in text:
        if sign not in LETTERS and sign not in MARKS and sign != BLANK:
            return None
    spaced = text
    for mark in MARKS:
        spaced = spaced.replace(mark, f" {mark} ")
    return spaced.split()
