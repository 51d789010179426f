"""Programs made into rows: boxes, codes, the rows of defs and of calls."""

import unittest

from stepcourt.maker import boxes, call_rows, code_of, def_rows
from stepcourt.reader import read

HEAD = "cell a 1\ncell b 2\nrow r 3\nrow s 5\n"


def body_code(text):
    """The rows that main makes of a body's text, without its end."""
    code = code_of(read(HEAD + "main\n" + text + ("\n" if text else "") + "end"))
    assert code[-1] == ("end",)
    return code[:-1]


class Boxes(unittest.TestCase):
    def test_without_rows(self):
        self.assertEqual(boxes(read("cell a 0\nmain\nend")), {})

    def test_cells_first_then_row_by_row(self):
        self.assertEqual(boxes(read(HEAD + "main\nend")), {"r": 2, "s": 5})
        self.assertEqual(boxes(read("cell a 0\nrow z 8\nrow y 1\nrow x 2\nmain\nend")), {"z": 1, "y": 9, "x": 10})

    def test_one_name_of_all_three(self):
        program = read("cell x 0\ncell y 0\nrow y 2\nrow x 2\ndef x\nend\nmain\nset y (at y x)\nput x y 1\ncall x\nend")
        self.assertEqual(boxes(program), {"y": 2, "x": 4})
        self.assertEqual(
            code_of(program),
            (
                ("get", 0), ("at", 2, 2), ("set", 1),
                ("get", 1), ("num", 1), ("put", 4, 2),
                ("call", 8), ("end",), ("back",),
            ),
        )


class Terms(unittest.TestCase):
    def made(self, term, *rows):
        self.assertEqual(body_code("set a " + term), rows + (("set", 0),))

    def test_single_ones(self):
        self.made("0", ("num", 0))
        self.made("4294967295", ("num", 4294967295))
        self.made("a", ("get", 0))
        self.made("b", ("get", 1))

    def test_at(self):
        self.made("(at r b)", ("get", 1), ("at", 2, 3))
        self.made("(at s (at r 7))", ("num", 7), ("at", 2, 3), ("at", 5, 5))

    def test_op(self):
        for sign in "+-*<=":
            self.made("(" + sign + " a 1)", ("get", 0), ("num", 1), ("op", sign))
        self.made(
            "(+ (- a 1) (* (at r 2) b))",
            ("get", 0), ("num", 1), ("op", "-"), ("num", 2), ("at", 2, 3), ("get", 1), ("op", "*"), ("op", "+"),
        )


class Statements(unittest.TestCase):
    def test_nothing(self):
        self.assertEqual(code_of(read("cell a 0\nmain\nend")), (("end",),))

    def test_set(self):
        self.assertEqual(body_code("set b (+ a 3)"), (("get", 0), ("num", 3), ("op", "+"), ("set", 1)))

    def test_put(self):
        self.assertEqual(
            body_code("put s (+ a 1) (at r b)"),
            (("get", 0), ("num", 1), ("op", "+"), ("get", 1), ("at", 2, 3), ("put", 5, 5)),
        )

    def test_while(self):
        self.assertEqual(body_code("while a\nend"), (("get", 0), ("zero", 3), ("go", 0)))
        self.assertEqual(
            body_code("set a 1\nwhile (< a 9)\nset a 2\nend\nset a 3"),
            (
                ("num", 1), ("set", 0),
                ("get", 0), ("num", 9), ("op", "<"), ("zero", 9), ("num", 2), ("set", 0), ("go", 2),
                ("num", 3), ("set", 0),
            ),
        )

    def test_a_while_within_a_while(self):
        self.assertEqual(
            body_code("while a\nwhile b\nset b 0\nend\nset a 0\nend"),
            (
                ("get", 0), ("zero", 10),
                ("get", 1), ("zero", 7), ("num", 0), ("set", 1), ("go", 2),
                ("num", 0), ("set", 0), ("go", 0),
            ),
        )

    def test_if(self):
        self.assertEqual(body_code("if a\nelse\nend"), (("get", 0), ("zero", 3), ("go", 3)))
        self.assertEqual(
            body_code("set a 1\nif b\nset a 2\nelse\nset a 3\nset a 4\nend\nset a 5"),
            (
                ("num", 1), ("set", 0),
                ("get", 1), ("zero", 7), ("num", 2), ("set", 0), ("go", 11),
                ("num", 3), ("set", 0), ("num", 4), ("set", 0),
                ("num", 5), ("set", 0),
            ),
        )
        self.assertEqual(
            body_code("if a\nset a 1\nelse\nend"), (("get", 0), ("zero", 5), ("num", 1), ("set", 0), ("go", 5))
        )
        self.assertEqual(
            body_code("if a\nelse\nset a 1\nend"), (("get", 0), ("zero", 3), ("go", 5), ("num", 1), ("set", 0))
        )

    def test_an_if_within_an_if(self):
        self.assertEqual(
            body_code("if a\nif b\nelse\nset b 1\nend\nelse\nwhile b\nend\nend"),
            (
                ("get", 0), ("zero", 8),
                ("get", 1), ("zero", 5), ("go", 7), ("num", 1), ("set", 1),
                ("go", 11),
                ("get", 1), ("zero", 11), ("go", 8),
            ),
        )


class Defs(unittest.TestCase):
    def test_without_defs(self):
        program = read("cell a 0\nmain\nset a 1\nend")
        self.assertEqual(def_rows(program), {})
        self.assertEqual(call_rows(program), ())

    def test_empty_ones(self):
        program = read("cell a 0\ndef f\nend\ndef g\nend\nmain\nend")
        self.assertEqual(code_of(program), (("end",), ("back",), ("back",)))
        self.assertEqual(def_rows(program), {"f": 1, "g": 2})
        self.assertEqual(call_rows(program), ())

    def test_calls_ahead_behind_and_of_itself(self):
        program = read(
            "cell a 0\ndef f\ncall g\ncall f\nend\ndef g\nset a 1\ncall f\nend\nmain\nwhile a\ncall g\nend\ncall f\nend"
        )
        self.assertEqual(
            code_of(program),
            (
                ("get", 0), ("zero", 4), ("call", 9), ("go", 0), ("call", 6), ("end",),
                ("call", 9), ("call", 6), ("back",),
                ("num", 1), ("set", 0), ("call", 6), ("back",),
            ),
        )
        self.assertEqual(def_rows(program), {"f": 6, "g": 9})
        self.assertEqual(call_rows(program), (6, 7, 11, 2, 4))

    def test_jumps_within_defs(self):
        program = read("cell a 0\ndef f\nwhile a\nif a\nelse\ncall f\nend\nend\nend\nmain\nset a 1\nend")
        self.assertEqual(
            code_of(program),
            (
                ("num", 1), ("set", 0), ("end",),
                ("get", 0), ("zero", 10), ("get", 0), ("zero", 8), ("go", 9), ("call", 3), ("go", 3), ("back",),
            ),
        )
        self.assertEqual(call_rows(program), (8,))

    def test_calls_of_main_alone_and_of_a_def_alone(self):
        self.assertEqual(call_rows(read("cell a 0\ndef f\nend\nmain\ncall f\ncall f\nend")), (0, 1))
        self.assertEqual(call_rows(read("cell a 0\ndef f\ncall f\nend\nmain\nend")), (1,))

    def test_a_great_depth(self):
        text = "cell a 0\ndef f\nend\nmain\n" + "while a\n" * 300 + "call f\n" + "end\n" * 300 + "end"
        program = read(text)
        code = code_of(program)
        self.assertEqual(len(code), 300 * 3 + 1 + 1 + 1)
        self.assertEqual(call_rows(program), (600,))
        self.assertEqual(code[1], ("zero", 901))
        self.assertEqual(code[600:602], (("call", 902), ("go", 598)))


class Told(unittest.TestCase):
    def test_new_dicts_each_time(self):
        program = read(HEAD + "def f\nend\nmain\ncall f\nend")
        for told in (boxes, def_rows):
            first = told(program)
            kept = dict(first)
            first.clear()
            self.assertEqual(told(program=program), kept)
            self.assertIs(type(told(program)), dict)

    def test_kinds(self):
        text = HEAD + "def f\nend\nmain\nput r 1 2\ncall f\nend"
        program = read(text)
        code = code_of(program=program)
        self.assertIs(type(code), tuple)
        self.assertEqual({type(row) for row in code}, {tuple})
        self.assertIs(type(call_rows(program=program)), tuple)
        self.assertEqual(code_of(program), code)
        self.assertEqual(program, read(text))


if __name__ == "__main__":
    unittest.main()
