"""Terms and programs written as texts, and read from them again."""

import unittest

from stepcourt.reader import read, read_term
from stepcourt.words import figures_of
from stepcourt.writer import show, show_term

A = ("cell", "a")
ONE = ("num", 1)
CALL = ("call", "f")

WHOLE = (
    (("abcdef", 4294967295), ("a", 0), ("z", 10)),
    (("a", 8), ("rows", 1)),
    (("step", (("put", "rows", A, ("op", "*", A, ("at", "a", A))), ("while", A, (CALL,)))), ("f", ())),
    (
        CALL,
        ("if", ("op", "<", A, ONE), (("if", A, (("call", "step"),), (CALL, CALL)),), (("set", "z", ("num", 0)),)),
        ("while", ONE, (("while", ("op", "=", A, A), ()), ("if", A, (), (("while", A, ()),)))),
    ),
)

WHOLE_TEXT = """cell abcdef 4294967295
cell a 0
cell z 10
row a 8
row rows 1
def step
put rows a (* a (at a a))
while a
call f
end
end
def f
end
main
call f
if (< a 1)
if a
call step
else
call f
call f
end
else
set z 0
end
while 1
while (= a a)
end
if a
else
while a
end
end
end
end"""


class Terms(unittest.TestCase):
    def test_single_ones(self):
        self.assertEqual(show_term(("num", 0)), "0")
        self.assertEqual(show_term(("num", 4294967295)), "4294967295")
        self.assertEqual(show_term(("cell", "abcdef")), "abcdef")

    def test_brackets(self):
        self.assertEqual(show_term(("at", "r", A)), "(at r a)")
        for sign in "+-*<=":
            self.assertEqual(show_term(("op", sign, A, ONE)), "(" + sign + " a 1)")
        self.assertEqual(
            show_term(("op", "-", ("at", "r", ("op", "+", A, ONE)), ("op", "*", ONE, ("at", "s", ("num", 10))))),
            "(- (at r (+ a 1)) (* 1 (at s 10)))",
        )

    def test_read_again(self):
        for term in (A, ONE, ("at", "r", A), ("op", "<", ("op", "=", A, ONE), ("at", "r", ("at", "r", ONE)))):
            self.assertEqual(read_term(show_term(term)), term)

    def test_by_name(self):
        self.assertEqual(show_term(term=ONE), "1")

    def test_figures(self):
        for number in (0, 1, 9, 10, 11, 99, 100, 101, 4294967295, 10 ** 18):
            self.assertEqual(figures_of(number), str(number))


class Programs(unittest.TestCase):
    def both_ways(self, program, text):
        self.assertEqual(show(program), text)
        self.assertEqual(read(text), program)

    def test_the_least_one(self):
        self.both_ways(((("a", 0),), (), (), ()), "cell a 0\nmain\nend")

    def test_the_whole(self):
        self.both_ways(WHOLE, WHOLE_TEXT)

    def test_each_statement(self):
        for statement, text in (
            (("set", "a", ONE), "set a 1"),
            (("put", "r", A, ONE), "put r a 1"),
            (("put", "r", ("at", "r", A), ("op", "=", A, ONE)), "put r (at r a) (= a 1)"),
            (CALL, "call f"),
            (("while", A, ()), "while a\nend"),
            (("while", A, (CALL, CALL)), "while a\ncall f\ncall f\nend"),
            (("if", A, (), ()), "if a\nelse\nend"),
            (("if", A, (CALL,), ()), "if a\ncall f\nelse\nend"),
            (("if", A, (), (CALL,)), "if a\nelse\ncall f\nend"),
            (("if", A, (CALL, ("while", ONE, ())), (CALL,)), "if a\ncall f\nwhile 1\nend\nelse\ncall f\nend"),
        ):
            self.both_ways(((("a", 0),), (), (), (statement,)), "cell a 0\nmain\n" + text + "\nend")
            self.both_ways(
                ((("a", 0),), (), (("h", (statement, statement)),), ()),
                "cell a 0\ndef h\n" + text + "\n" + text + "\nend\nmain\nend",
            )

    def test_not_let_by(self):
        self.both_ways(
            (
                (("a", 0), ("a", 1)),
                (("a", 1), ("a", 2)),
                (("a", ()), ("a", ())),
                (("set", "x", ("at", "y", ("cell", "z"))),),
            ),
            "cell a 0\ncell a 1\nrow a 1\nrow a 2\ndef a\nend\ndef a\nend\nmain\nset x (at y z)\nend",
        )

    def test_lengths_from_one_on(self):
        for length in (1, 8, 9, 4294967296, 10 ** 20):
            self.both_ways(
                ((("a", 0),), (("r", length),), (), ()), "cell a 0\nrow r " + str(length) + "\nmain\nend"
            )
        text = "cell a 0\nrow r 1" + "0" * 6000 + "\nmain\nend"
        self.assertEqual(show(read(text)), text)

    def test_a_great_depth(self):
        text = "cell a 0\nmain\n" + "while a\n" * 300 + "if 0\nelse\n" * 300 + "end\n" * 600 + "end"
        self.assertEqual(show(read(text)), text)

    def test_unlike_programs_have_unlike_texts(self):
        while_two = ((("a", 0),), (), (), (("while", A, (CALL,)), CALL))
        while_one = ((("a", 0),), (), (), (("while", A, ()), CALL, CALL))
        self.assertNotEqual(show(while_one), show(while_two))

    def test_asked_again(self):
        self.assertEqual(show(program=WHOLE), show(WHOLE))
        self.assertIs(type(show(WHOLE)), str)


if __name__ == "__main__":
    unittest.main()
