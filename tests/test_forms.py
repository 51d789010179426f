"""Parts of terms, and the calls by their numbers."""

import unittest

from stepcourt.forms import calls_in, parts

ONE = ("num", 1)
CALL = ("call", "f")


def deep_term(depth):
    term = ("cell", "a")
    for turn in range(depth):
        term = ("at", "r", term) if turn % 2 else ("op", "+", ONE, term)
    return term


class Parts(unittest.TestCase):
    def test_single_ones(self):
        self.assertEqual(parts(("num", 0)), 1)
        self.assertEqual(parts(("num", 4294967295)), 1)
        self.assertEqual(parts(("cell", "a")), 1)

    def test_at(self):
        self.assertEqual(parts(("at", "r", ONE)), 2)
        self.assertEqual(parts(("at", "r", ("at", "r", ("cell", "a")))), 3)

    def test_op(self):
        self.assertEqual(parts(("op", "+", ONE, ("cell", "a"))), 3)
        self.assertEqual(parts(("op", "<", ("op", "*", ONE, ONE), ("at", "r", ONE))), 6)
        self.assertEqual(parts(("op", "=", ONE, ("op", "-", ONE, ("op", "-", ONE, ONE)))), 7)

    def test_counted_each_time(self):
        pair = ("op", "+", ONE, ONE)
        self.assertEqual(parts(("op", "+", pair, pair)), 7)

    def test_the_bounds(self):
        term = ONE
        for sign in "+-*<=+-*<":
            term = ("op", sign, ONE, term)
        self.assertEqual(parts(("at", "r", term)), 20)

    def test_depths(self):
        self.assertEqual(parts(deep_term(6)), 10)
        self.assertEqual(parts(deep_term(3000)), 4501)


class Calls(unittest.TestCase):
    def test_none(self):
        self.assertEqual(calls_in(((("a", 0),), (), (), ())), ())
        self.assertEqual(calls_in(((("a", 0),), (), (("f", ()),), (("set", "a", ONE),))), ())

    def test_defs_first_then_main(self):
        program = (
            (("a", 0),),
            (),
            (("f", (("call", "g"),)), ("g", (("call", "h"), ("call", "f"))), ("h", ())),
            (("call", "f"), ("call", "h")),
        )
        self.assertEqual(calls_in(program), ("g", "h", "f", "f", "h"))

    def test_the_texts_order_within_statements(self):
        body = (
            ("call", "a"),
            (
                "while",
                ONE,
                (("call", "b"), ("if", ONE, (("call", "c"),), (("call", "d"), ("call", "e"))), ("call", "f")),
            ),
            ("put", "r", ONE, ONE),
            ("if", ONE, (), (("call", "g"),)),
            ("if", ONE, (("while", ONE, (("call", "h"),)),), ()),
            ("call", "i"),
        )
        self.assertEqual(calls_in(((("x", 0),), (), (), body)), tuple("abcdefghi"))
        self.assertEqual(calls_in(((("x", 0),), (), (("z", body),), (("call", "j"),))), tuple("abcdefghij"))

    def test_one_statement_in_several_places(self):
        program = ((("a", 0),), (), (("f", (CALL, CALL)),), (CALL, ("while", ONE, (CALL,))))
        self.assertEqual(calls_in(program), ("f",) * 4)

    def test_not_let_by(self):
        program = ((("a", 0), ("a", 1)), (), (("f", (CALL,)), ("f", (("call", "no"),))), (CALL,))
        self.assertEqual(calls_in(program), ("f", "no", "f"))

    def test_a_name_that_is_a_cells_a_rows_and_a_defs(self):
        program = ((("f", 0),), (("f", 1),), (("f", ()),), (("set", "f", ("at", "f", ("cell", "f"))), CALL))
        self.assertEqual(calls_in(program), ("f",))

    def test_a_great_depth(self):
        body = (CALL,)
        for turn in range(1500):
            body = (("while", ONE, body), CALL)
        self.assertEqual(len(calls_in(((("a", 0),), (), (), body))), 1501)

    def test_asked_again(self):
        program = ((("a", 0),), (), (("f", (CALL,)),), (CALL,))
        self.assertEqual(calls_in(program), calls_in(program=program))
        self.assertIs(type(calls_in(program)), tuple)
        self.assertEqual(program, ((("a", 0),), (), (("f", (CALL,)),), (CALL,)))


if __name__ == "__main__":
    unittest.main()
