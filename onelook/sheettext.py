"""Sheets and worths written as texts, and texts read to sheets."""

from onelook.errors import BadContent, BadText
from onelook.formulas import made_formula
from onelook.formulatext import formula_text, read_unlooked
from onelook.places import FIGURES, place_name, read_place
from onelook.sheets import made_content, with_room


def sheet_text(sheet):
    return "\n".join([place_name(place) + " " + content_text(sheet[place]) for place in sorted(sheet)])


def content_text(content):
    return "= " + formula_text(content) if isinstance(content, tuple) else worth_text(content)


def worth_text(standing):
    if standing is None:
        return "blank"
    if isinstance(standing, tuple):
        return " ".join(standing)
    return '"' + standing + '"' if isinstance(standing, str) else str(standing)


def read_sheet(text):
    rows = text.split("\n") if text != "" else []
    return with_room(looked_cells([read_row(row) for row in rows]))


# The cell of one row; what it holds may still be too great, or be nothing that a cell may hold.
def read_row(row):
    parts = row.partition(" ")
    return (read_place(parts[0]), read_content(parts[2]))


def read_content(text):
    if text.startswith("= "):
        return read_unlooked(text[2:])
    return read_marked(text) if text.startswith('"') else read_signed(text)


def read_marked(text):
    if text.find('"', 1) != len(text) - 1:
        raise BadText("the next mark is not the row's end")
    return text[1:-1]


def read_signed(text):
    figures = text[1:] if text.startswith("-") else text
    if not are_figures(figures) or text == "-0":
        raise BadText("no number")
    # So many figures are too great whatever follows, and Python reads no number of any length.
    number = int(figures[:62])
    return number if figures == text else -number


def are_figures(text):
    if text == "" or not all([sign in FIGURES for sign in text]):
        return False
    return text[0] != "0" or text == "0"


# Each refusal is looked for in all cells ahead of the one that is told behind it.
def looked_cells(cells):
    for cell in cells:
        if isinstance(cell[1], tuple):
            made_formula(cell[1])
    sheet = {}
    for cell in cells:
        if cell[0] in sheet:
            raise BadContent("a cell that stands twice")
        sheet[cell[0]] = made_content(cell[1])
    return sheet
