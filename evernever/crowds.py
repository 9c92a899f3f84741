"""Crowds: sets of stands, told as whole numbers."""


def all_stands(many):
    return (1 << (1 << many)) - 1


def least(crowd):
    # Of a number and its negative only the lowest bit is common to both.
    return (crowd & -crowd).bit_length() - 1
