"""Sheets: dicts from places to contents, a number, a text or a formula each."""

from onelook.errors import BadContent, Full
from onelook.formulas import is_text, is_whole, made_formula
from onelook.places import made_place
from onelook.worths import is_great

MOST_CELLS = 200


def made_sheet(cells):
    sheet = {}
    for cell in cells:
        put_content(sheet, cell[0], cell[1])
    return with_room(sheet)


def with_cells(sheet, changes):
    return with_room(with_changes(sheet, changes))


# However many cells are filled by it: of changes in a row only what is there in the end counts.
def with_changes(sheet, changes):
    turned = dict(sheet)
    for place, content in changes.items():
        put_content(turned, place, content)
    return turned


def put_content(sheet, place, content):
    made = made_place(place[0], place[1])
    if content is None:
        sheet.pop(made, None)
    else:
        sheet[made] = made_content(content)


def made_content(content):
    if isinstance(content, tuple):
        return made_formula(content)
    if not is_text(content) and not is_number(content):
        raise BadContent("a number or a text beyond the bounds")
    return content


def is_number(content):
    return is_whole(content) and not is_great(content)


def with_room(sheet):
    if len(sheet) > MOST_CELLS:
        raise Full("more than 200 filled cells")
    return sheet


def has_formula(sheet, place):
    return isinstance(sheet.get(place), tuple)


def formula_places(sheet):
    return sorted([place for place in sheet if has_formula(sheet, place)])
