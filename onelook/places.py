"""Places, pairs (row, column), and their names."""

from onelook.errors import BadPlace, BadText

LETTERS = "abcdefghijklmnopqrstuvwxyz"
FIGURES = "0123456789"
ROWS = 99
COLUMNS = 26


def is_place(place):
    return 0 <= place[0] < ROWS and 0 <= place[1] < COLUMNS


def made_place(row, column):
    if not is_place((row, column)):
        raise BadPlace("the row or the column is beyond the sheet")
    return (row, column)


def place_name(place):
    made = made_place(place[0], place[1])
    return LETTERS[made[1]] + str(made[0] + 1)


def read_place(text):
    if not is_name(text):
        raise BadText("no name of a place")
    return (int(text[1:]) - 1, LETTERS.index(text[0]))


def is_name(text):
    # The length goes first: it bounds the number, and no empty text is asked for below.
    return len(text) in (2, 3) and text[0] in LETTERS and is_row_number(text[1:])


def is_row_number(figures):
    return figures[0] != "0" and all([sign in FIGURES for sign in figures])
