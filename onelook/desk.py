"""A desk: a keeper that is asked by rows of text and answers by texts."""

from onelook.areas import area_name, read_area
from onelook.carried import readied_sheet
from onelook.errors import BadText, SheetError
from onelook.fresh import stands
from onelook.keeper import Keeper
from onelook.places import LETTERS, place_name, read_place
from onelook.rings import rings_in
from onelook.sheettext import are_figures, content_text, read_row, read_sheet, sheet_text, worth_text
from onelook.support import support_of
from onelook.waves import turned_places, wave_between

MOST_FIGURES = 60


class Desk:
    def __init__(self, text):
        self.keeper = Keeper(read_sheet(text))

    def ask(self, row):
        try:
            return answer_of(self.keeper, row)
        except SheetError as refusal:
            return "refused " + refusal.class_name()

    def text(self):
        return sheet_text(self.keeper.sheet_now())


def answer_of(keeper, row):
    # A row has no row's end within it, not even between quotation marks.
    if "\n" in row:
        raise BadText("more than one row")
    if row == "back":
        return back_answer(keeper)
    if row == "again":
        return again_answer(keeper)
    if row == "rings":
        return rings_answer(keeper)
    words = row.split(" ")
    if len(words) == 2 and words[0] in QUESTIONS:
        return QUESTIONS[words[0]](keeper, read_place(words[1]))
    return deed_answer(keeper, deed_by(row, words))


def deed_by(row, words):
    if words[0] == "put":
        return ("put",) + read_row(row[len("put "):])
    if words[0] == "clear" and len(words) == 2:
        return ("clear", read_place(words[1]))
    if words[0] == "copy" and len(words) == 3:
        place = read_place(words[2])
        return ("copy", read_area(words[1]), place)
    if words[0] in ("rows", "columns") and words[1:2] in (["in"], ["out"]) and len(words) == 4:
        line = read_count(words[2]) - 1 if words[0] == "rows" else read_letter(words[2])
        return ("shift", words[0] + " " + words[1], line, read_count(words[3]))
    raise BadText("a row of no kind")


def read_count(text):
    if not are_figures(text) or len(text) > MOST_FIGURES:
        raise BadText("no number of at most 60 figures")
    return int(text)


def read_letter(text):
    if len(text) != 1 or text not in LETTERS:
        raise BadText("no letter of a column")
    return LETTERS.index(text)


def deed_answer(keeper, deed):
    sheet = keeper.sheet_now()
    book = keeper.book_now()
    keeper.do(deed)
    if deed[0] != "shift":
        return "\n".join(turned_rows(sheet, book, keeper.sheet_now(), keeper.book_now()))
    # What turned is told by the names ahead of the shift: so by the sheet that was readied for it.
    ready = wave_between(sheet, book, readied_sheet(sheet, deed[1:]))
    return "\n".join(["moved"] + turned_rows(sheet, book, ready[0], ready[1]))


def turned_rows(sheet, book, sheet_now, book_now):
    rows = []
    for place, before, now in turned_places(sheet, book, sheet_now, book_now):
        rows.append(place_name(place) + " " + worth_text(before) + " -> " + worth_text(now))
    return rows


def back_answer(keeper):
    sheet = keeper.sheet_now()
    book = keeper.book_now()
    deeds = keeper.deeds()
    keeper.back()
    return step_answer(keeper, deeds[-1], sheet, book)


def again_answer(keeper):
    sheet = keeper.sheet_now()
    book = keeper.book_now()
    keeper.again()
    return step_answer(keeper, keeper.deeds()[-1], sheet, book)


def step_answer(keeper, deed, sheet, book):
    if deed[0] == "shift":
        return "moved"
    return "\n".join(turned_rows(sheet, book, keeper.sheet_now(), keeper.book_now()))


def rings_answer(keeper):
    rings = rings_in(keeper.book_now())
    return "\n".join([" > ".join(names_of(ring)) for ring in rings]) if rings else "none"


def names_of(places):
    return [place_name(place) for place in places]


def show_answer(keeper, place):
    return worth_text(stands(keeper.sheet_now(), keeper.book_now(), place))


def why_answer(keeper, place):
    book = keeper.book_now()
    items = book[place][2] if place in book else ()
    return " ".join([item_text(item) for item in items]) if items else "none"


def item_text(item):
    if item[0] == "at":
        return place_name(item[1])
    return area_name(item[1]) + ".." + place_name(item[2])


def formula_answer(keeper, place):
    sheet = keeper.sheet_now()
    return content_text(sheet[place]) if place in sheet else "blank"


def hangs_answer(keeper, place):
    return " ".join(names_of(support_of(keeper.book_now(), place)))


QUESTIONS = {
    "show": show_answer,
    "why": why_answer,
    "formula": formula_answer,
    "hangs": hangs_answer,
}
