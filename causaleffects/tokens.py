"""Cutting texts into tokens ([A5])."""

from causaleffects.graphs import FIGURES, LETTERS, MOST_SIGNS

SIGN = "sign"
WORD = "word"
NUMBER = "number"
BAD = "bad"
END = "end"
SIGNS = ",;:|/*(){}"
MOST_FIGURES = 400


def cut(text):
    """The tokens (KIND, SIGNS, LINE, COLUMN) of a text; the last one is its first bad sign, or its end."""
    tokens = []
    rows = text.split("\n")
    for line, row in enumerate(rows, start=1):
        at = 0
        while at < len(row) and row[at] != "#":
            if row[at] == " ":
                at += 1
                continue
            kind, until = piece(row, at)
            if kind == BAD:
                tokens.append((BAD, "", line, until + 1))
                return tokens
            tokens.append((kind, row[at:until], line, at + 1))
            at = until
    tokens.append((END, "", len(rows), len(rows[-1]) + 1))
    return tokens


def piece(row, at):
    """The kind of the token that begins here and where it ends, or BAD and where the bad sign stands."""
    sign = row[at]
    if sign in LETTERS:
        return word_piece(row, at)
    if sign in FIGURES:
        return number_piece(row, at)
    if sign in SIGNS:
        return (SIGN, at + 1)
    behind = row[at + 1:at + 2]
    if sign == "-" and behind == ">":
        return (SIGN, at + 2)
    if sign == "-" and behind != "" and behind in FIGURES:
        return negative_piece(row, at)
    return (BAD, at)


def word_piece(row, at):
    """As piece, where a word begins."""
    until = run_end(row, at, LETTERS + FIGURES)
    if until - at > MOST_SIGNS:
        return (BAD, at + MOST_SIGNS)
    return (WORD, until)


def number_piece(row, at):
    """As piece, where the figures of a number begin."""
    until = run_end(row, at, FIGURES)
    if row[at] == "0" and until > at + 1:
        return (BAD, at + 1)
    if until - at > MOST_FIGURES:
        return (BAD, at + MOST_FIGURES)
    return (NUMBER, until)


def negative_piece(row, at):
    """As piece, where the - of a number stands."""
    if row[at + 1] == "0":
        return (BAD, at + 1)
    return number_piece(row, at + 1)


def run_end(row, at, signs):
    """Where the longest run of these signs from here on ends."""
    until = at
    while until < len(row) and row[until] in signs:
        until += 1
    return until
