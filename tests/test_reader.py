"""Terms and programs read from texts, and the first row that can't stand there."""

import unittest

from stepcourt.errors import CourtError, NoText
from stepcourt.reader import read, read_term

LEAST = "cell a 0\nmain\nend"

WHOLE = """cell a 7
cell last 4294967295
row r 1
row longer 8
def f
end
def g
set a (+ a 1)
call f
end
main
while (< a 10)
if (= (at longer a) 0)
put longer (* a a) (- (at r 0) last)
call g
else
while 0
end
end
end
set last 0
if a
else
end
end"""

WHOLE_PROGRAM = (
    (("a", 7), ("last", 4294967295)),
    (("r", 1), ("longer", 8)),
    (("f", ()), ("g", (("set", "a", ("op", "+", ("cell", "a"), ("num", 1))), ("call", "f")))),
    (
        (
            "while",
            ("op", "<", ("cell", "a"), ("num", 10)),
            (
                (
                    "if",
                    ("op", "=", ("at", "longer", ("cell", "a")), ("num", 0)),
                    (
                        (
                            "put",
                            "longer",
                            ("op", "*", ("cell", "a"), ("cell", "a")),
                            ("op", "-", ("at", "r", ("num", 0)), ("cell", "last")),
                        ),
                        ("call", "g"),
                    ),
                    (("while", ("num", 0), ()),),
                ),
            ),
        ),
        ("set", "last", ("num", 0)),
        ("if", ("cell", "a"), (), ()),
    ),
)

NO_TERMS = (
    "", " ", "a ", " a", "a b", "1 2", "00", "01", "007", "4294967296", "99999999999999999999", "9" * 5000, "-1", "+1",
    "1.0", "1a", "a1", "A", "abcdefg", "cell", "row", "def", "main", "set", "put", "while", "if", "else", "call", "end",
    "at", "+", "(", ")", "()", "( )", "(a)", "(1)", "((a))", "(+)", "(+ 1)", "(+ 1 2", "+ 1 2)", "+ 1 2", "(+ 1 2))",
    "((+ 1 2)", "((+ 1 2))", "( + 1 2)", "(+ 1 2 )", "(+  1 2)", "(+ 1  2)", "(+ 1 2) ", " (+ 1 2)", "(+ 1 2 3)",
    "(+1 2)", "(+ 12)", "(+ 1 02)", "(+ 1 2)3", "3(+ 1 2)", "(+ 1 2)(+ 1 2)", "(+ 1 2) (+ 1 2)", "(+(+ 1 2) 3)",
    "(+ 1(+ 2 3))", "(+ (+ 1 2)3)", "(+ (+ 1 2) 3) )", "(++ 1 2)", "(+- 1 2)", "(/ 1 2)", "(> 1 2)", "(== 1 2)",
    "(1 + 2)", "(a 1 2)", "(at)", "(at r)", "(at r 1 2)", "(at 1 2)", "(at at 2)", "(at (at r 1) 2)", "(at r at)",
    "(at  r 1)", "(at r  1)", "(at r 1 )", "( at r 1)", "(at row 1)", "(at R 1)", "(At r 1)", "(+ at r 1)", "[+ 1 2]",
    "(+ 1 4294967296)", "(+ 1 end)", "(+ (1) 2)", "(+ 1 (2))", "(+ 1 ())", "(+ () 1)", "1\n", "\n1", "(+ 1\n2)", "\n",
    "(+ 1 (- 2 (* 3 (at r 04))))", ")a(", ")(", "(+ 1 2)+", "a)", "(a", "a(", "1)", "(num 1)", "(cell a)", "((+) 1 2)",
    "(() 1 2)", "((+ 1 2) 3 4)", "(+ 01 1)", "(+ end 1)", "(+ 4294967296 1)", "(- + 1)", "(+ A 1)", "1 (", "1 (+ 1 2",
    "(+ 1 2) (", "a (at r 1", "(+ 1 2) )", "1 )", "a ) (", "(+ 1 (- 2 3)", "(+ (- 2 3) 1", "(at r (+ 1 01))",
)

NO_ROWS_WITHIN = (
    "", " ", "set", "set ", "set a", "set a ", "set a  1", "set  a 1", " set a 1", "set a 1 ", "set a 1 2", "set 1 1",
    "set a 01", "set end 1", "set a 1 (", "set a 1 (+ 1 2", "set a 1 )", "set a (= 01 1)",
    "set (at r 1) 2", "set a (+ 1 2", "set a + 1 2", "Set a 1", "set a at", "seta 1",
    "put", "put r", "put r 1", "put r 1 2 3", "put r 1 2 ", "put r 1  2", "put  r 1 2", "put 1 1 1", "put at 1 1",
    "put r (+ 1 2)", "put r (+ 1 2)3", "put r 1(+ 1 2)", "put r (1 2)", "put r 1 02", "put r (+ 1 2) (+ 1 2",
    "put r 1 2 (", "put r 1 2 (+ 1", "put r 1 2 )", "put r (1) 2", "put r 01 2", "while 1 (+ 1 2", "if 1 (", "if 1 )",
    "while", "while ", "while 1 1", "while  1", "while 1 ", "while end", "while (", "if", "if ", "if 1 1", "if  1",
    "if 1 ", "if else", "call", "call ", "call f f", "call f ", "call  f", " call f", "call 1", "call main", "call (f)",
    "call abcdefg", "end ", " end", "End", "(end", "end)", "end end", "else ", "else end", "def f", "main", "cell a 0",
    "row r 1", "a", "1", "(+ 1 2)", "nop", "set(a 1", "while(+ 1 2)", "\tend", "end\r",
)

NO_ROWS_AT_TOP = (
    "", " ", "end", "else", "set a 1", "put r 1 2", "while 1", "if 1", "call f", "main ", " main", "main 0", "Main",
    "def", "def ", "def f ", "def  f", "def f g", "def 1", "def end", "def def", "def abcdefg", "cell", "cell ",
    "cell b", "cell b ", "cell b  0", "cell  b 0", " cell b 0", "cell b 0 ", "cell b 0 0", "cell b 01", "cell b 00",
    "cell b 4294967296", "cell b -1", "cell b x", "cell 0 0", "cell B 0", "cell cell 0", "cell abcdefg 0",
    "cell b (+ 1 2)", "cell b 99999999999", "row", "row ", "row r", "row r 0", "row r 00", "row r 01", "row r -1",
    "row r x", "row r 1 ", "row r  1", "row  r 1", "row r 1 1", "row row 1", "row 1 1", "row abcdefg 1", "rows r 1",
    "(main", "main)", "cell b 0)", "row r 1)",
)


class Reader(unittest.TestCase):
    def refused(self, text, row):
        with self.assertRaises(NoText) as taken:
            read(text)
        self.assertIs(type(taken.exception), NoText)
        self.assertEqual(taken.exception.row, row, text)


class Terms(unittest.TestCase):
    def test_words(self):
        self.assertEqual(read_term("0"), ("num", 0))
        self.assertEqual(read_term("7"), ("num", 7))
        self.assertEqual(read_term("10"), ("num", 10))
        self.assertEqual(read_term("4294967295"), ("num", 4294967295))

    def test_names(self):
        self.assertEqual(read_term("a"), ("cell", "a"))
        self.assertEqual(read_term("abcdef"), ("cell", "abcdef"))
        self.assertEqual(read_term("ends"), ("cell", "ends"))

    def test_at(self):
        self.assertEqual(read_term("(at r 3)"), ("at", "r", ("num", 3)))
        self.assertEqual(read_term("(at r (at s x))"), ("at", "r", ("at", "s", ("cell", "x"))))

    def test_signs(self):
        for sign in "+-*<=":
            self.assertEqual(read_term("(" + sign + " a 2)"), ("op", sign, ("cell", "a"), ("num", 2)))

    def test_brackets_within_one_another(self):
        self.assertEqual(
            read_term("(+ (- 1 (* a 2)) (at r (< 3 (= 4 b))))"),
            (
                "op",
                "+",
                ("op", "-", ("num", 1), ("op", "*", ("cell", "a"), ("num", 2))),
                ("at", "r", ("op", "<", ("num", 3), ("op", "=", ("num", 4), ("cell", "b")))),
            ),
        )

    def test_ten_brackets_within_one_another(self):
        text, term = "x", ("cell", "x")
        for turn in range(5):
            text, term = "(+ " + text + " 1)", ("op", "+", term, ("num", 1))
            text, term = "(at r " + text + ")", ("at", "r", term)
        self.assertEqual(read_term(text), term)

    def test_a_great_depth(self):
        term = read_term("(at r " * 900 + "0" + ")" * 900)
        for turn in range(900):
            self.assertEqual(term[:2], ("at", "r"))
            term = term[2]
        self.assertEqual(term, ("num", 0))
        with self.assertRaises(NoText):
            read_term("(" * 4000 + ")" * 4000)

    def test_refused(self):
        for text in NO_TERMS:
            with self.assertRaises(NoText, msg=text) as taken:
                read_term(text)
            self.assertEqual(taken.exception.row, 0)
            self.assertIsInstance(taken.exception, CourtError)

    def test_kinds(self):
        term = read_term(text="(+ 1 2)")
        self.assertIs(type(term), tuple)
        self.assertIs(type(term[2][1]), int)


class Programs(Reader):
    def test_the_least_one(self):
        self.assertEqual(read(LEAST), ((("a", 0),), (), (), ()))

    def test_the_whole(self):
        self.assertEqual(read(WHOLE), WHOLE_PROGRAM)
        self.assertEqual(read(text=WHOLE), WHOLE_PROGRAM)

    def test_each_statement(self):
        for text, statement in (
            ("set a 1", ("set", "a", ("num", 1))),
            ("put r 1 a", ("put", "r", ("num", 1), ("cell", "a"))),
            ("put r (at r 1) (+ 1 2)", ("put", "r", ("at", "r", ("num", 1)), ("op", "+", ("num", 1), ("num", 2)))),
            ("put r 1 (at r 1)", ("put", "r", ("num", 1), ("at", "r", ("num", 1)))),
            ("put r (at r 1) 1", ("put", "r", ("at", "r", ("num", 1)), ("num", 1))),
            ("call f", ("call", "f")),
            ("while a\nend", ("while", ("cell", "a"), ())),
            ("while a\ncall f\nend", ("while", ("cell", "a"), (("call", "f"),))),
            ("if a\nelse\nend", ("if", ("cell", "a"), (), ())),
            ("if a\ncall f\nelse\nend", ("if", ("cell", "a"), (("call", "f"),), ())),
            ("if a\nelse\ncall f\nend", ("if", ("cell", "a"), (), (("call", "f"),))),
            ("if a\ncall f\nelse\ncall g\nend", ("if", ("cell", "a"), (("call", "f"),), (("call", "g"),))),
        ):
            self.assertEqual(read("cell a 0\nmain\n" + text + "\nend"), ((("a", 0),), (), (), (statement,)))
            self.assertEqual(
                read("cell a 0\ndef h\n" + text + "\nend\nmain\nend"), ((("a", 0),), (), (("h", (statement,)),), ())
            )

    def test_not_let_by(self):
        text = "cell a 0\ncell a 1\nrow a 1\nrow a 2\ndef a\ncall no\nend\ndef a\nend\nmain\nset x (at y z)\nend"
        self.assertEqual(
            read(text),
            (
                (("a", 0), ("a", 1)),
                (("a", 1), ("a", 2)),
                (("a", (("call", "no"),)), ("a", ())),
                (("set", "x", ("at", "y", ("cell", "z"))),),
            ),
        )

    def test_edges_of_numbers_and_names(self):
        text = "cell z 4294967295\ncell zzzzzz 0\nrow abcdef 8\nmain\nend"
        self.assertEqual(read(text), ((("z", 4294967295), ("zzzzzz", 0)), (("abcdef", 8),), (), ()))

    def test_lengths_from_one_on(self):
        for length in (1, 8, 9, 4294967296, 10 ** 20):
            self.assertEqual(read("cell a 0\nrow r " + str(length) + "\nmain\nend")[1], (("r", length),))
        self.assertEqual(read("cell a 0\nrow r 1" + "0" * 7000 + "\nmain\nend")[1], (("r", 10 ** 7000),))

    def test_beyond_the_bounds(self):
        cells = "\n".join(["cell a 0"] * 9)
        rows = "\n".join(["row r 1"] * 7)
        defs = "\n".join(["def f\nend"] * 7)
        statements = "\n".join(["set a 1"] * 60)
        program = read("\n".join([cells, rows, defs, "main", statements, "end"]))
        self.assertEqual([len(part) for part in program], [9, 7, 7, 60])

    def test_a_great_depth(self):
        body = read("cell a 0\nmain\n" + "if 0\nelse\n" * 400 + "end\n" * 400 + "end")[3]
        for turn in range(400):
            self.assertEqual(body[0][:3], ("if", ("num", 0), ()))
            body = body[0][3]
        self.assertEqual(body, ())

    def test_kinds(self):
        program = read(WHOLE)
        self.assertEqual([type(part) for part in program], [tuple] * 4)
        self.assertEqual([type(part) for part in program[2][1]], [str, tuple])
        self.assertIs(type(program[0][0][1]), int)


class Refusals(Reader):
    def test_the_text_without_signs(self):
        self.refused("", 0)

    def test_no_cell(self):
        self.refused("main\nend", 0)
        self.refused("row r 1\ncell a 0\nmain\nend", 0)
        self.refused("def f\nend\ncell a 0\nmain\nend", 0)

    def test_the_first_row(self):
        for row in NO_ROWS_AT_TOP:
            self.refused(row + "\n" + WHOLE, 0)
            self.refused(row, 0)

    def test_rows_at_the_top(self):
        for row in NO_ROWS_AT_TOP:
            self.refused("cell a 0\n" + row + "\nmain\nend", 1)
            self.refused("cell a 0\nrow r 1\n" + row + "\nmain\nend", 2)
            self.refused("cell a 0\nrow r 1\ndef f\nend\n" + row + "\nmain\nend", 4)

    def test_rows_within_bodies(self):
        for row in NO_ROWS_WITHIN:
            self.refused("cell a 0\nmain\n" + row + "\nend", 2)
            self.refused("cell a 0\nmain\nset a 1\n" + row, 3)
            self.refused("cell a 0\ndef f\n" + row + "\nend\nmain\nend", 2)
            self.refused("cell a 0\nmain\nwhile 1\n" + row + "\nend\nend", 3)
            self.refused("cell a 0\nmain\nif 1\n" + row + "\nelse\nend\nend", 3)
            self.refused("cell a 0\nmain\nif 1\nelse\n" + row + "\nend\nend", 4)

    def test_terms_in_each_statement(self):
        for term in NO_TERMS:
            if "\n" in term or " " in term.strip("() "):
                continue
            for head in ("set a ", "while ", "if ", "put r 1 ", "put r (+ 1 2) "):
                self.refused("cell a 0\nmain\n" + head + term + "\nend", 2)
            self.refused("cell a 0\nmain\nput r " + term + " 1\nend", 2)

    def test_the_order_of_the_parts(self):
        self.refused("cell a 0\nrow r 1\ncell b 0\nmain\nend", 2)
        self.refused("cell a 0\ndef f\nend\ncell b 0\nmain\nend", 3)
        self.refused("cell a 0\ndef f\nend\nrow r 1\nmain\nend", 3)
        self.refused("cell a 0\nmain\nend\ndef f\nend", 3)
        self.refused("cell a 0\nmain\nend\nmain\nend", 3)
        self.refused("cell a 0\nmain\nend\ncell b 0", 3)
        self.refused("cell a 0\nmain\nend\nrow r 1", 3)

    def test_else_where_it_can_not_stand(self):
        self.refused("cell a 0\nmain\nelse\nend", 2)
        self.refused("cell a 0\ndef f\nelse\nend\nmain\nend", 2)
        self.refused("cell a 0\nmain\nwhile 1\nelse\nend\nend", 3)
        self.refused("cell a 0\nmain\nif 1\nelse\nelse\nend\nend", 4)
        self.refused("cell a 0\nmain\nif 1\nset a 1\nwhile 1\nelse\nend\nend", 5)

    def test_end_of_an_if_without_else(self):
        self.refused("cell a 0\nmain\nif 1\nend\nend", 3)
        self.refused("cell a 0\nmain\nif 1\nif 1\nelse\nend\nend\nend", 6)

    def test_behind_the_end(self):
        for row in ("", " ", "end", "main", "set a 1", "cell b 0", "end\nend", "\n"):
            self.refused(LEAST + "\n" + row, 3)
        self.refused(WHOLE + "\n", WHOLE.count("\n") + 1)

    def test_ends_too_early(self):
        rows = WHOLE.split("\n")
        for many in range(1, len(rows)):
            self.refused("\n".join(rows[:many]), many)

    def test_ends_too_early_with_an_empty_row(self):
        rows = WHOLE.split("\n")
        for many in range(1, len(rows) + 1):
            self.refused("\n".join(rows[:many]) + "\n", many)

    def test_each_row_spoilt(self):
        rows = WHOLE.split("\n")
        for number, row in enumerate(rows):
            for wrong in ("", " " + row, row + " ", row.replace(" ", "  ", 1) + "?", row.upper(), row + ")", "(" + row):
                self.refused("\n".join(rows[:number] + [wrong] + rows[number + 1:]), number)

    def test_the_first_of_several(self):
        self.refused("cell a 0\nrow r 0\nmain\nset a 01\nend\nend", 1)
        self.refused("cell a 0\nmain\nset a 01\nelse\nend", 2)
        self.refused("cell a 00\nmain\nend\n", 0)

    def test_other_row_ends(self):
        self.refused("cell a 0\r\nmain\r\nend", 0)
        self.refused("cell a 0\x0bmain\x0bend", 0)
        self.refused("cell a 0\u2028main\u2028end", 0)
        self.refused("\ncell a 0\nmain\nend", 0)

    def test_names_that_begin_a_row(self):
        self.refused("cell a 0\nmain\nsets a 1\nend", 2)
        self.refused("cell a 0\nmain\nends\nend", 2)
        self.refused("cell a 0\nmains\nend", 1)

    def test_refused_again_alike(self):
        for turn in range(2):
            self.refused("cell a 0\nmain\nset a\nend", 2)
        self.assertEqual(read(WHOLE), WHOLE_PROGRAM)


if __name__ == "__main__":
    unittest.main()
