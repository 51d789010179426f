"""Programs looked at: the first thing that is amiss, with its word and name."""

import unittest

from stepcourt.errors import CourtError, NoProgram
from stepcourt.looker import look
from stepcourt.reader import read


def text_of(body, defs="", rows="row r 2"):
    """A text with the cells a, b, the row r, the def f behind the defs told."""
    parts = ["cell a 0", "cell b 0", rows, defs, "def f", "end", "main", body, "end"]
    return "\n".join(part for part in parts if part)


class Looked(unittest.TestCase):
    def let_by(self, text):
        self.assertIs(look(read(text)), True)

    def refused(self, text, word, name):
        with self.assertRaises(NoProgram) as taken:
            look(read(text))
        self.assertEqual((taken.exception.word, taken.exception.name), (word, name))
        self.assertIsInstance(taken.exception, CourtError)


class LetBy(Looked):
    def test_the_least_one(self):
        self.let_by("cell a 0\nmain\nend")

    def test_all_statements(self):
        self.let_by(text_of("set a (+ a (at r b))\nput r a b\nwhile a\nif b\ncall f\nelse\ncall f\nend\nend"))

    def test_empty_bodies(self):
        self.let_by(text_of("while a\nend\nif b\nelse\nend"))

    def test_one_name_of_all_three(self):
        self.let_by("cell x 0\nrow x 1\ndef x\ncall x\nend\nmain\nset x (at x x)\nput x x x\ncall x\nend")

    def test_defs_ahead_behind_and_itself(self):
        self.let_by("cell a 0\ndef f\ncall g\ncall f\nend\ndef g\ncall f\nend\nmain\ncall g\nend")

    def test_by_name(self):
        self.assertIs(look(program=read("cell a 0\nmain\nend")), True)


class Twice(Looked):
    def test_cells(self):
        self.refused("cell a 0\ncell a 0\nmain\nend", "twice", "a")
        self.refused("cell a 0\ncell b 0\ncell c 0\ncell b 1\ncell a 0\nmain\nend", "twice", "b")

    def test_rows(self):
        self.refused("cell a 0\nrow r 1\nrow s 1\nrow r 2\nrow s 1\nmain\nend", "twice", "r")

    def test_defs(self):
        self.refused("cell a 0\ndef f\nend\ndef g\nend\ndef g\nend\ndef f\nend\nmain\nend", "twice", "g")

    def test_cells_ahead_of_rows_ahead_of_defs(self):
        cells, rows, defs = "cell a 0\ncell a 0\n", "row r 1\nrow r 1\n", "def f\nend\ndef f\nend\n"
        self.refused(cells + rows + defs + "main\nend", "twice", "a")
        self.refused("cell a 0\n" + rows + defs + "main\nend", "twice", "r")
        self.refused(cells + defs + "main\nend", "twice", "a")

    def test_twice_ahead_of_unknown(self):
        self.refused("cell a 0\ndef f\nset x 1\nend\ndef f\nend\nmain\nend", "twice", "f")
        self.refused("cell a 0\ncell a 1\nmain\nset x 1\nend", "twice", "a")
        self.refused("cell a 0\nrow r 1\nrow r 1\nmain\nset x 1\nend", "twice", "r")

    def test_they_never_hinder_one_another(self):
        self.let_by("cell x 0\nrow x 1\ndef x\nend\nmain\nend")
        self.refused("cell x 0\nrow x 1\ndef x\nend\ndef x\nend\nmain\nend", "twice", "x")


class Unknown(Looked):
    def test_the_name_of_each_statement(self):
        self.refused(text_of("set x 1"), "unknown", "x")
        self.refused(text_of("put x 1 2"), "unknown", "x")
        self.refused(text_of("call x"), "unknown", "x")

    def test_a_name_of_another_kind(self):
        self.refused(text_of("set r 1"), "unknown", "r")
        self.refused(text_of("set f 1"), "unknown", "f")
        self.refused(text_of("put a 1 1"), "unknown", "a")
        self.refused(text_of("put f 1 1"), "unknown", "f")
        self.refused(text_of("call a"), "unknown", "a")
        self.refused(text_of("call r"), "unknown", "r")
        self.refused(text_of("set a r"), "unknown", "r")
        self.refused(text_of("set a f"), "unknown", "f")
        self.refused(text_of("set a (at a 1)"), "unknown", "a")
        self.refused(text_of("set a (at f 1)"), "unknown", "f")

    def test_the_terms_of_each_statement(self):
        for term in ("x", "(at x 1)", "(at r x)", "(+ x 1)", "(+ 1 x)", "(= (at r (- a x)) 1)", "(< 1 (* (at x 1) 2))"):
            for row in ("set a " + term, "put r " + term + " 1", "put r 1 " + term):
                self.refused(text_of(row), "unknown", "x")
            self.refused(text_of("while " + term + "\nend"), "unknown", "x")
            self.refused(text_of("if " + term + "\nelse\nend"), "unknown", "x")

    def test_the_name_ahead_of_the_terms(self):
        self.refused(text_of("set x y"), "unknown", "x")
        self.refused(text_of("put x y z"), "unknown", "x")
        self.refused(text_of("put r y z"), "unknown", "y")
        self.refused(text_of("put r 1 z"), "unknown", "z")

    def test_the_order_within_terms(self):
        self.refused(text_of("set a (at x y)"), "unknown", "x")
        self.refused(text_of("set a (at r y)"), "unknown", "y")
        self.refused(text_of("set a (+ x y)"), "unknown", "x")
        self.refused(text_of("set a (+ (at r x) y)"), "unknown", "x")
        self.refused(text_of("set a (+ (+ a (at x y)) z)"), "unknown", "x")
        self.refused(text_of("set a (+ (+ a (at r y)) z)"), "unknown", "y")
        self.refused(text_of("put r (at r (+ a x)) y"), "unknown", "x")

    def test_the_order_of_statements(self):
        self.refused(text_of("set a x\nset y 1"), "unknown", "x")
        self.refused(text_of("while x\nset y 1\nend\nset z 1"), "unknown", "x")
        self.refused(text_of("while a\nset y 1\nend\nset z 1"), "unknown", "y")
        self.refused(text_of("while a\nwhile b\nend\nend\nset z 1"), "unknown", "z")
        self.refused(text_of("if x\nset y 1\nelse\nset z 1\nend"), "unknown", "x")
        self.refused(text_of("if a\nset y 1\nelse\nset z 1\nend\ncall w"), "unknown", "y")
        self.refused(text_of("if a\nelse\nset z 1\nend\ncall w"), "unknown", "z")
        self.refused(text_of("if a\nelse\nend\ncall w"), "unknown", "w")
        self.refused(text_of("while a\nif b\nwhile b\nput x 1 1\nend\nelse\nend\ncall y\nend"), "unknown", "x")

    def test_defs_ahead_of_main(self):
        self.refused(text_of("set x 1", defs="def g\ncall y\nend"), "unknown", "y")
        self.refused(text_of("set x 1", defs="def g\nend"), "unknown", "x")
        self.refused(text_of("", defs="def g\nset x 1\nend\ndef h\nset y 1\nend"), "unknown", "x")
        self.refused(text_of("", defs="def g\nend\ndef h\nset y 1\nend"), "unknown", "y")

    def test_without_rows(self):
        self.refused(text_of("set a (at r 1)", rows=""), "unknown", "r")
        self.refused(text_of("put r 1 1", rows=""), "unknown", "r")

    def test_main_is_no_def(self):
        self.refused("cell a 0\nmain\ncall f\nend", "unknown", "f")

    def test_refused_again_alike(self):
        for turn in range(2):
            self.refused(text_of("set x y"), "unknown", "x")

    def test_a_great_depth(self):
        self.let_by("cell a 0\nmain\n" + "while a\n" * 300 + "end\n" * 300 + "end")
        self.refused("cell a 0\nmain\n" + "while a\n" * 300 + "set x 1\n" + "end\n" * 300 + "end", "unknown", "x")


if __name__ == "__main__":
    unittest.main()
