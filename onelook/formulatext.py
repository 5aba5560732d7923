"""Formulas written as texts, and texts read to formulas."""

from onelook.areas import joined_corners
from onelook.errors import BadText
from onelook.formulas import has_area, has_text_signs, made_formula, part_many, parts_of, tail_of
from onelook.places import FIGURES, LETTERS, place_name, read_place

MOST_BRACKETS = 40

# How much each op binds; the minus ahead binds more than all of them.
BINDING = {"<": 1, "=": 1, "&": 2, "+": 3, "-": 3, "*": 4, "/": 4}
MINUS_BINDING = 5

CALL_WORDS = ("not", "rest", "if", "else", "sum", "count", "least", "greatest", "find")
SIGNS = ("+", "-", "*", "/", "&", "<", "=", "(", ")", ",")
END = ("end", "")


def formula_text(formula):
    word = formula[0]
    if word == "num":
        return str(formula[1])
    if word == "text":
        return '"' + formula[1] + '"'
    if word == "lost":
        return word
    if word == "at":
        return pinned_name(formula[1], formula[2])
    if word == "minus":
        return "-" + part_text(formula[1], MINUS_BINDING)
    if word in BINDING:
        return op_text(formula)
    return call_text(formula)


def op_text(formula):
    op = formula[0]
    # The left one of two that bind alike goes first: only on the right it needs brackets.
    left = part_text(formula[1], BINDING[op])
    right = part_text(formula[2], BINDING[op] + 1)
    return f"{left} {op} {right}"


def part_text(formula, least_binding):
    text = formula_text(formula)
    return f"({text})" if binding_of(formula) < least_binding else text


def binding_of(formula):
    # A part in one piece counts as the minus does: none is ever asked to bind more.
    return BINDING.get(formula[0], MINUS_BINDING)


def call_text(formula):
    texts = [formula_text(part) for part in parts_of(formula)]
    if has_area(formula[0]):
        tail = tail_of(formula)
        texts.append(pinned_area_name(tail[0], tail[1]))
    inner = ", ".join(texts)
    return formula[0] + "(" + inner + ")"


def pinned_name(place, pins):
    name = place_name(place)
    return "$" * pins[1] + name[0] + "$" * pins[0] + name[1:]


def pinned_area_name(area, pins):
    return pinned_name(area[:2], pins[:2]) + ":" + pinned_name(area[2:], pins[2:])


def read_formula(text):
    return made_formula(read_unlooked(text))


# Something of it may still be too great: who reads several formulas asks for that behind all of them.
def read_unlooked(text):
    words = words_of(text)
    check_brackets(words)
    row = WordRow(words)
    formula = read_part(row)
    if row.ahead() != END:
        raise BadText("words behind the formula's end")
    return formula


def words_of(text):
    words = []
    start = 0
    while start < len(text):
        end = word_end(text, start)
        if text[start] != " ":
            words.append(read_word(text[start:end]))
        start = end
    return words


def word_end(text, start):
    if text[start] == '"':
        return closing_mark(text, start) + 1
    if text[start] in FIGURES:
        end = start
        while end < len(text) and text[end] in FIGURES:
            end += 1
        return end
    end = start
    while end < len(text) and is_name_sign(text[end]):
        end += 1
    return max(end, start + 1)


def closing_mark(text, start):
    found = text.find('"', start + 1)
    if found < 0:
        raise BadText("a text without its end mark")
    return found


def is_name_sign(sign):
    return sign in LETTERS or sign in FIGURES or sign in ("$", ":")


# A word is read to a pair: whole formulas, areas with their pins, call words and signs are told apart.
def read_word(word):
    if word[0] == '"':
        return ("whole", read_quoted(word))
    if word[0] in FIGURES:
        return ("whole", read_number(word))
    if word == "lost":
        return ("whole", ("lost",))
    if word in CALL_WORDS:
        return ("call", word)
    if word in SIGNS:
        return ("sign", word)
    if ":" in word:
        return ("area", read_pinned_area(word))
    return ("whole", read_pinned(word))


def read_quoted(word):
    text = word[1:-1]
    if not has_text_signs(text):
        raise BadText("a sign that no text may have")
    return ("text", text)


def read_number(figures):
    if figures[0] == "0" and figures != "0":
        raise BadText("a number with a nought ahead")
    # So many figures are too great whatever follows, and Python reads no number of any length.
    return ("num", int(figures[:62]))


def read_pinned(name):
    column_pin = 1 if name[0] == "$" else 0
    bare = name[column_pin:]
    row_pin = 1 if bare[1:2] == "$" else 0
    return ("at", read_place(bare[:1] + bare[1 + row_pin:]), (row_pin, column_pin))


def read_pinned_area(word):
    names = word.split(":")
    if len(names) != 2 or "" in names:
        raise BadText("no name of an area")
    first = read_pinned(names[0])
    last = read_pinned(names[1])
    return (joined_corners(first[1], last[1]), first[2] + last[2])


def check_brackets(words):
    deep = 0
    for word in words:
        if word == ("sign", "("):
            deep += 1
        if word == ("sign", ")"):
            deep -= 1
        if deep > MOST_BRACKETS:
            raise BadText("brackets too deep within one another")


class WordRow:
    def __init__(self, words):
        self.words = words
        self.spot = 0

    def ahead(self):
        return self.words[self.spot] if self.spot < len(self.words) else END

    def taken(self):
        word = self.ahead()
        self.spot += 1
        return word

    def pass_sign(self, sign):
        if self.taken() != ("sign", sign):
            raise BadText(f"no {sign} where it is due")


# Ops are joined as soon as a weaker one follows, so that only brackets lead deeper into calls.
def read_part(row):
    parts = [read_operand(row)]
    ops = []
    while row.ahead()[0] == "sign" and row.ahead()[1] in BINDING:
        op = row.taken()[1]
        join_down(parts, ops, BINDING[op])
        ops.append(op)
        parts.append(read_operand(row))
    join_down(parts, ops, 0)
    return parts[0]


def join_down(parts, ops, binding):
    while ops and BINDING[ops[-1]] >= binding:
        right = parts.pop()
        left = parts.pop()
        parts.append((ops.pop(), left, right))


def read_operand(row):
    minuses = 0
    while row.ahead() == ("sign", "-"):
        row.taken()
        minuses += 1
    formula = read_whole(row)
    for done in range(minuses):
        formula = ("minus", formula)
    return formula


def read_whole(row):
    word = row.taken()
    if word[0] == "whole":
        return word[1]
    if word[0] == "call":
        return read_call(row, word[1])
    if word != ("sign", "("):
        raise BadText("no formula where one is due")
    formula = read_part(row)
    row.pass_sign(")")
    return formula


def read_call(row, word):
    entries = [word]
    opening = "("
    for done in range(part_many(word)):
        row.pass_sign(opening)
        entries.append(read_part(row))
        opening = ","
    if has_area(word):
        row.pass_sign(opening)
        entries.extend(read_area_word(row))
    row.pass_sign(")")
    return tuple(entries)


def read_area_word(row):
    word = row.taken()
    if word[0] != "area":
        raise BadText("no area's name where one is due")
    return word[1]
