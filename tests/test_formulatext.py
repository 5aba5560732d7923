"""Promises 2.2 and 2.3: formulas written, and texts read to formulas."""

import random
import re
import unittest

from helper import LOOSE, RefusalChecks, at, nested, num, some_formula, spread
from onelook.formulas import depth_of, piece_many
from onelook.formulatext import formula_text, read_formula

BINDS = {"<": 1, "=": 1, "&": 2, "+": 3, "-": 3, "*": 4, "/": 4}
AREA = (1, 1, 4, 3)
A, B, C, D = at(0, 0), at(0, 1), at(0, 2), at(0, 3)

KNOWN = (
    (num(0), "0"), (num(12), "12"), (num(10 ** 60), "1" + "0" * 60),
    (("text", ""), '""'), (("text", "a b"), '"a b"'), (("text", "(1 + 2, $"), '"(1 + 2, $"'),
    (("text", "-" * 40), '"' + "-" * 40 + '"'), (("lost",), "lost"),
    (at(11, 2), "c12"), (at(11, 2, (1, 1)), "$c$12"), (at(11, 2, (1, 0)), "c$12"), (at(11, 2, (0, 1)), "$c12"),
    (at(98, 25), "z99"), (("minus", A), "-a1"), (("minus", ("minus", A)), "--a1"), (("minus", num(5)), "-5"),
    (("-", A, ("minus", B)), "a1 - -b1"), (("-", ("minus", A), B), "-a1 - b1"),
    (("minus", ("-", A, B)), "-(a1 - b1)"), (("*", ("minus", A), B), "-a1 * b1"),
    (("minus", ("*", A, B)), "-(a1 * b1)"), (("*", A, ("minus", B)), "a1 * -b1"),
    (("minus", ("not", A)), "-not(a1)"), (("not", ("minus", A)), "not(-a1)"), (("not", ("<", A, B)), "not(a1 < b1)"),
    (("rest", A, B), "rest(a1, b1)"), (("rest", ("+", A, B), ("=", A, B)), "rest(a1 + b1, a1 = b1)"),
    (("if", A, B, C), "if(a1, b1, c1)"), (("else", A, ("lost",)), "else(a1, lost)"),
    (("sum", AREA, LOOSE), "sum(b2:d5)"), (("count", AREA, LOOSE), "count(b2:d5)"),
    (("least", AREA, LOOSE), "least(b2:d5)"), (("greatest", AREA, LOOSE), "greatest(b2:d5)"),
    (("sum", AREA, (1, 0, 0, 1)), "sum(b$2:$d5)"), (("sum", AREA, (0, 1, 1, 0)), "sum($b2:d$5)"),
    (("sum", AREA, (1, 1, 1, 1)), "sum($b$2:$d$5)"), (("count", (0, 0, 0, 0), LOOSE), "count(a1:a1)"),
    (("find", A, AREA, LOOSE), "find(a1, b2:d5)"), (("find", ("&", A, B), AREA, (0, 0, 1, 1)), "find(a1 & b1, b2:$d$5)"),
    (("-", ("-", A, B), C), "a1 - b1 - c1"), (("-", A, ("-", B, C)), "a1 - (b1 - c1)"),
    (("<", ("&", ("+", ("*", A, B), C), D), A), "a1 * b1 + c1 & d1 < a1"),
    (("*", ("+", ("&", ("<", A, B), C), D), A), "(((a1 < b1) & c1) + d1) * a1"),
    (("+", ("*", A, B), ("/", C, D)), "a1 * b1 + c1 / d1"), (("*", ("+", A, B), ("-", C, D)), "(a1 + b1) * (c1 - d1)"),
    (("minus", ("minus", ("+", A, ("minus", ("minus", B))))), "--(a1 + --b1)"),
)

READ_OTHERWISE_WRITTEN = (
    ("1+2", ("+", num(1), num(2))), ("  1  +  2  ", ("+", num(1), num(2))), ("((1))", num(1)), ("(a1)", A),
    ("-(5)", ("minus", num(5))), ("- 5", ("minus", num(5))), ("- - a1", ("minus", ("minus", A))),
    ("a1--b1", ("-", A, ("minus", B))), ("a1---b1", ("-", A, ("minus", ("minus", B)))),
    ("(a1 + b1) + c1", ("+", ("+", A, B), C)), ("a1 + (b1 * c1)", ("+", A, ("*", B, C))),
    ("sum ( b2:d5 )", ("sum", AREA, LOOSE)), ("find((a1),b2:d5)", ("find", A, AREA, LOOSE)),
    ("if(a1,b1,c1)", ("if", A, B, C)), (" if ( a1 , b1 , c1 ) ", ("if", A, B, C)), ("(lost)", ("lost",)),
    ('("a")', ("text", "a")), ('"a"&"b"', ("&", ("text", "a"), ("text", "b"))), ('" "', ("text", " ")),
    ("not((a1))", ("not", A)), ("(not(a1))", ("not", A)), ("(sum(b2:d5))", ("sum", AREA, LOOSE)),
    ("a1<b1=c1", ("=", ("<", A, B), C)), ("a1/b1*c1", ("*", ("/", A, B), C)), ("(((-((a1)))))", ("minus", A)),
    ("else(lost,0)", ("else", ("lost",), num(0))), ("-a1/-b1", ("/", ("minus", A), ("minus", B))),
)

NO_FORMULAS = (
    "", " ", "()", "(", ")", ",", "+", "-", "--", "$", ":", '"', '"a', 'a"', '"a"b"', '"a""b"', "'a'",
    "1 2", "a1 b1", "a1 1", "1a1", "1 a1", '"a" 1', "lost lost", "lost 1", "lost()", "lost(1)",
    "1 +", "+ 1", "+1", "* 1", "1 *", "1 + * 2", "1 + + 2", "1 < < 2", "1 <= 2", "1 == 2", "1 > 2", "1 <> 2",
    "1 - ", "-", "1 -", "a1 &", "& a1", "= 1", "1 / / 2", "1 ** 2", "1 // 2", "1 ^ 2", "1 ! 2", "1 ; 2", "1 . 2", "1.5",
    "(1", "1)", "((1)", "(1))", ")1(", "(1 + 2", "(1 + ) 2", "1 (+ 2)", "1 + (2", "()1", "1()", "(1)(2)", "(1) 2",
    "01", "00", "007", "1 + 01", "-01", "0x1", "1_000", "1e5", "1 000",
    "a0", "a01", "a100", "a00", "aa1", "A1", "a", "1a", "a1b", "a1a1", "$a$", "$$a1", "a$$1", "a1$", "$1", "$a$01",
    "$a", "a$", "a$1$", "$ a1", "a $1", "a 1", "$a1:", "a1 : b2", "sum(a1 :b2)", "sum(a1: b2)", "sum(a 1:b2)",
    "a1:b2", "a1:b2 + 1", "(a1:b2)", "-a1:b2", "not(a1:b2)", "find(a1:b2, a1:b2)", "if(a1:b2, 1, 2)", "else(1, a1:b2)",
    "sum(a1)", "sum(1)", "sum(a1, b2)", "sum()", "sum", "sum a1:b2", "sum(a1:b2", "suma1:b2)", "sum a1:b2)",
    "sum((a1:b2))", "sum(a1:b2, a1:b2)", "sum(a1:b2,)", "sum(,a1:b2)", "sum(a1:b2 + 1)", "sum(-a1:b2)", "sum(lost)",
    "sum(b1:a1)", "sum(a2:a1)", "sum(b2:a1)", "sum(z1:a99)", "sum(a99:z1)", "sum(z99:a1)", "sum($b1:$a1)", "sum(a1:b2:c3)",
    "sum(a1:b100)", "sum(a0:b2)", "sum(a1:B2)", "sum(a1:)", "sum(:a1)", "sum(:)", "sum(a1::b2)", "sum(a01:b2)",
    "sum($$a1:b2)", "sum(a1$:b2)", "sum(a1:b2$)",
    "find(a1)", "find(a1, b2)", "find(a1, (b2:d5))", "find(b2:d5, a1)", "find(a1, b2:d5, 1)", "find(, b2:d5)",
    "find(a1 b2:d5)", "find(a1,, b2:d5)", "find(a1, d5:b2)", "find()", "find(a1, b2:d5",
    "not()", "not(1, 2)", "not 1", "not", "not(1", "not(1,)", "not(,1)", "rest(1)", "rest(1, 2, 3)", "rest()",
    "rest(1 2)", "rest(1, )", "if(1)", "if(1, 2)", "if(1, 2, 3, 4)", "if(1, 2, )", "if(1,, 3)", "if()", "if", "if 1",
    "else(1)", "else(1, 2, 3)", "else", "else()", "(1, 2)", "1, 2", "(,)",
    "add(1, 2)", "min(a1:b2)", "num(1)", "text(1)", "at(a1)", "minus(1)", "sums(a1:b2)", "Sum(a1:b2)", "SUM(a1:b2)",
    "iff(1, 2, 3)", "losts", "nothing", "no t(1)", "su m(a1:b2)", "sum1(a1:b2)", "foo", "= 1 + 2",
    '"50%"', '"%" & 1', "50%", "5 % 2", "a1\n", "a1\t+ 1", "{1}", "[1]", "1 | 2", "a1 @", "#", "1 ? 2", "~1", "\\",
)


def blanked(chance, text):
    """The text with its blanks put anew between its words."""
    words = re.findall(r'"[^"]*"|[a-z0-9$:]+|[^ ]', text)
    return "".join(" " * chance.choice([0, 0, 1, 3]) + word for word in words) + " " * chance.randrange(3)


class Written(unittest.TestCase):
    def test_known_texts(self):
        for formula, text in KNOWN:
            self.assertEqual(formula_text(formula), text)

    def test_each_op_within_each_on_either_side(self):
        for outer in BINDS:
            for inner in BINDS:
                part = f"a1 {inner} b1"
                left = f"({part})" if BINDS[inner] < BINDS[outer] else part
                right = f"({part})" if BINDS[inner] <= BINDS[outer] else part
                self.assertEqual(formula_text((outer, (inner, A, B), C)), f"{left} {outer} c1")
                self.assertEqual(formula_text((outer, C, (inner, A, B))), f"c1 {outer} {right}")

    def test_each_op_within_the_minus_and_the_minus_within_each(self):
        for op in BINDS:
            self.assertEqual(formula_text(("minus", (op, A, B))), f"-(a1 {op} b1)")
            self.assertEqual(formula_text((op, ("minus", A), B)), f"-a1 {op} b1")
            self.assertEqual(formula_text((op, A, ("minus", B))), f"a1 {op} -b1")

    def test_calls_need_no_brackets(self):
        calls = [formula for formula, text in KNOWN if re.match(r"^[a-z]+\(", text)] + [num(7), ("lost",), ("text", "a")]
        for call in calls:
            text = formula_text(call)
            self.assertEqual(formula_text(("minus", call)), "-" + text)
            for op in BINDS:
                self.assertEqual(formula_text((op, call, call)), f"{text} {op} {text}")

    def test_what_stands_in_a_call_needs_no_brackets(self):
        for op in BINDS:
            part, text = (op, A, B), f"a1 {op} b1"
            self.assertEqual(formula_text(("if", part, part, part)), f"if({text}, {text}, {text})")
            self.assertEqual(formula_text(("not", part)), f"not({text})")
            self.assertEqual(formula_text(("rest", part, part)), f"rest({text}, {text})")
            self.assertEqual(formula_text(("else", part, part)), f"else({text}, {text})")
            self.assertEqual(formula_text(("find", part, AREA, LOOSE)), f"find({text}, b2:d5)")

    def test_no_pair_of_brackets_could_be_left_out(self):
        chance = random.Random(5)
        seen = 0
        for _ in range(1500):
            formula = some_formula(chance, 5)
            text = formula_text(formula)
            for start, end in own_brackets(text):
                seen += 1
                without = text[:start] + text[start + 1:end] + text[end + 1:]
                if piece_many(formula) <= 60:
                    self.assertNotEqual(read_formula(without), formula, text)
        self.assertGreater(seen, 500)


def own_brackets(text):
    """The pairs of brackets of a written formula that belong to no word and stand in no text."""
    bare = re.sub(r'"[^"]*"', lambda found: "." * len(found.group()), text)
    begun, pairs = [], []
    for spot, sign in enumerate(bare):
        if sign == "(":
            begun.append(spot)
        elif sign == ")":
            start = begun.pop()
            if start == 0 or not bare[start - 1].isalnum():
                pairs.append((start, spot))
    return pairs


class Read(RefusalChecks, unittest.TestCase):
    def test_known_texts(self):
        for formula, text in KNOWN:
            self.assertEqual(read_formula(text), formula)

    def test_texts_that_are_written_otherwise(self):
        for text, formula in READ_OTHERWISE_WRITTEN:
            self.assertEqual(read_formula(text), formula, text)

    def test_known_texts_with_other_blanks(self):
        chance = random.Random(1)
        for formula, text in KNOWN:
            for _ in range(20):
                self.assertEqual(read_formula(blanked(chance, text)), formula)

    def test_known_texts_in_brackets(self):
        for formula, text in KNOWN:
            self.assertEqual(read_formula(f"({text})"), formula)
            self.assertEqual(read_formula(f"( ( {text} ) )"), formula)
            self.assertEqual(read_formula(f"not(({text}))"), ("not", formula))

    def test_what_is_written_is_read_back(self):
        chance = random.Random(2)
        done = 0
        while done < 1500:
            formula = some_formula(chance, 6)
            if piece_many(formula) <= 60:
                text = formula_text(formula)
                self.assertEqual(read_formula(text), formula, text)
                self.assertEqual(read_formula(blanked(chance, text)), formula, text)
                done += 1

    def test_ops_in_a_row_without_brackets(self):
        for one in BINDS:
            for other in BINDS:
                told = read_formula(f"a1 {one} b1 {other} c1")
                if BINDS[one] >= BINDS[other]:
                    self.assertEqual(told, (other, (one, A, B), C))
                else:
                    self.assertEqual(told, (one, A, (other, B, C)))

    def test_texts_that_are_no_formulas(self):
        for text in NO_FORMULAS:
            self.refused("BadText", read_formula, text)

    def test_a_known_text_cut_or_with_a_word_more(self):
        for formula, text in KNOWN:
            for more in (" 1", " a1", " lost", ")", " +", " sum", ' "', ","):
                self.refused("BadText", read_formula, text + more)
            for ahead in ("(", "+ ", ", ", "lost, ", "not "):
                if ahead != "not " or not text.startswith("("):
                    self.refused("BadText", read_formula, ahead + text)
            if not text.startswith("-"):
                self.refused("BadText", read_formula, "1 " + text)
            if text.endswith(")"):
                self.refused("BadText", read_formula, text[:-1])


class Bounds(RefusalChecks, unittest.TestCase):
    def test_brackets_40_and_41_deep(self):
        self.assertEqual(read_formula("(" * 40 + "a1" + ")" * 40), A)
        self.refused("BadText", read_formula, "(" * 41 + "a1" + ")" * 41)
        self.assertEqual(read_formula("(" * 39 + "sum(b2:d5)" + ")" * 39), ("sum", AREA, LOOSE))
        self.refused("BadText", read_formula, "(" * 40 + "sum(b2:d5)" + ")" * 40)
        self.assertEqual(read_formula("not(" + "(" * 39 + "a1" + ")" * 39 + ")"), ("not", A))
        self.refused("BadText", read_formula, "not(" + "(" * 40 + "a1" + ")" * 40 + ")")
        mixed = "if(1, " * 5 + "(" * 35 + "a1" + ")" * 35 + ", 2)" * 5
        self.assertEqual(depth_of(read_formula(mixed)), 6)
        self.refused("BadText", read_formula, "(" + mixed + ")")

    def test_brackets_beside_one_another_are_not_deep(self):
        text = " + ".join(["(((((a1)))))"] * 10)
        self.assertEqual(read_formula(text), read_formula(" + ".join(["a1"] * 10)))
        self.assertEqual(read_formula("(a1) + " + "(" * 40 + "a1" + ")" * 40), ("+", A, A))
        self.refused("BadText", read_formula, "(a1) + " + "(" * 41 + "a1" + ")" * 41)
        quoted = '"' + "(" * 40 + '"'
        self.assertEqual(read_formula("(" * 40 + quoted + ")" * 40), ("text", "(" * 40))

    def test_calls_40_deep_are_a_formula_too_great_and_41_no_text(self):
        self.refused("BadFormula", read_formula, "not(" * 40 + "1" + ")" * 40)
        self.refused("BadText", read_formula, "not(" * 41 + "1" + ")" * 41)

    def test_numbers(self):
        self.assertEqual(read_formula("1" + "0" * 60), num(10 ** 60))
        self.assertEqual(read_formula("9" * 60), num(10 ** 60 - 1))
        for figures in ("1" + "0" * 59 + "1", "1" + "0" * 61, "9" * 61, "9" * 62, "1" * 4000, "1" + "0" * 3999, "5" * 5000):
            self.refused("BadFormula", read_formula, figures)
            self.refused("BadFormula", read_formula, f"1 + {figures}")
        self.refused("BadText", read_formula, "0" * 4000)

    def test_texts(self):
        self.assertEqual(read_formula('"' + "~" * 40 + '"'), ("text", "~" * 40))
        self.refused("BadFormula", read_formula, '"' + "~" * 41 + '"')
        self.refused("BadFormula", read_formula, '"' + "~" * 3998 + '"')
        self.refused("BadText", read_formula, '"' + "%" * 41 + '"')

    def test_every_sign_of_a_text(self):
        for number in range(32, 127):
            sign = chr(number)
            if sign in '"%':
                self.refused("BadText", read_formula, f'"a{sign}b"')
            else:
                self.assertEqual(read_formula(f'"a{sign}b"'), ("text", f"a{sign}b"))

    def test_areas(self):
        self.assertEqual(read_formula("sum(a1:y12)"), ("sum", (0, 0, 11, 24), LOOSE))
        for name in ("a1:g43", "a1:z99", "$a$1:$z$99", "a1:z12"):
            self.refused("BadFormula", read_formula, f"sum({name})")
            self.refused("BadFormula", read_formula, f"find(1, {name})")

    def test_pieces_and_depth(self):
        self.assertEqual(read_formula(formula_text(spread(60))), spread(60))
        self.refused("BadFormula", read_formula, formula_text(spread(61)))
        self.assertEqual(read_formula(formula_text(nested("not", 12))), nested("not", 12))
        self.refused("BadFormula", read_formula, formula_text(nested("not", 13)))
        self.assertEqual(read_formula("-" * 11 + "1"), nested("minus", 12))
        self.refused("BadFormula", read_formula, "-" * 12 + "1")
        self.assertEqual(depth_of(read_formula(" + ".join(["1"] * 12))), 12)
        self.refused("BadFormula", read_formula, " + ".join(["1"] * 13))

    def test_long_texts(self):
        self.refused("BadFormula", read_formula, "-" * 3999 + "1")
        self.refused("BadFormula", read_formula, "1" + "+1" * 1999)
        self.refused("BadFormula", read_formula, "1" + "*-1<2" * 799)
        self.refused("BadText", read_formula, "-" * 4000)
        self.refused("BadText", read_formula, "(" * 4000)
        self.refused("BadText", read_formula, "1" + "+1" * 1999 + "+")
        self.assertEqual(read_formula(" " * 3998 + "a1"), A)

    def test_a_wrong_text_is_told_ahead_of_a_great_one(self):
        for text in ("1" * 62 + " +", '"' + "a" * 41 + '" "', "sum(a1:z99", "sum(a1:z99) + sum(b1:a1)", "-" * 20,
                     "1" * 62 + " + 01", "not(" * 13 + "1" + ")" * 12, "sum(a1:z99) & a100", "1" * 62 + ' & "%"'):
            self.refused("BadText", read_formula, text)


if __name__ == "__main__":
    unittest.main()
