"""Programs run plainly: numbers, values, turns, calls, states, the end."""

import unittest

from stepcourt.errors import CourtError, TooLong
from stepcourt.plain import plain_run
from stepcourt.reader import read

LAST = 4294967295


def ran(text, numbers=(), most=5000):
    return plain_run(read(text), numbers, most)


def end_of(text, numbers=(), most=5000):
    return ran(text, numbers, most)[1]


def nested_calls(many):
    """A program whose def calls itself until a is many."""
    return "cell a 0\ndef f\nset a (+ a 1)\nif (< a %d)\ncall f\nelse\nend\nend\nmain\ncall f\nend" % many


class Values(unittest.TestCase):
    def told(self, term, due, numbers=()):
        text = "cell a 3\ncell b 5\nrow r 3\nmain\nput r 0 10\nput r 1 11\nput r 2 12\nset a " + term + "\nend"
        self.assertEqual(end_of(text, numbers)[1][0], due, term)

    def test_words_cells_rows(self):
        self.told("0", 0)
        self.told("4294967295", LAST)
        self.told("a", 3)
        self.told("b", 5)
        self.told("(at r 0)", 10)
        self.told("(at r 2)", 12)

    def test_a_place_beyond_the_length(self):
        self.told("(at r 3)", 10)
        self.told("(at r 5)", 12)
        self.told("(at r 4294967295)", 10)
        self.told("(at r 4294967294)", 12)
        self.told("(at r (- 0 3))", 11)
        self.told("(at r (at r 1))", 12)

    def test_ops(self):
        self.told("(+ a b)", 8)
        self.told("(- b a)", 2)
        self.told("(- a b)", LAST - 1)
        self.told("(* a b)", 15)
        self.told("(< a b)", 1)
        self.told("(< b a)", 0)
        self.told("(= a b)", 0)
        self.told("(= a 3)", 1)
        self.told("(+ a 4294967295)", 2)
        self.told("(* 65536 65536)", 0)
        self.told("(- (+ a (* b 2)) (at r (< a b)))", 2)

    def test_numbers_in_the_place_of_the_cells(self):
        self.told("(- a b)", 10, (15,))
        self.told("(- a b)", 14, (15, 1))
        self.told("(- a b)", LAST - 4, (0, 5))


class Statements(unittest.TestCase):
    def test_nothing(self):
        self.assertEqual(ran("cell a 7\nmain\nend", (), 0), ([], ("end", (7,), ())))

    def test_numbers(self):
        text = "cell a 1\ncell b 2\ncell c 3\nrow r 2\nmain\nend"
        self.assertEqual(end_of(text), ("end", (1, 2, 3), ((0, 0),)))
        self.assertEqual(end_of(text, (9,)), ("end", (9, 2, 3), ((0, 0),)))
        self.assertEqual(end_of(text, (0, LAST)), ("end", (0, LAST, 3), ((0, 0),)))
        self.assertEqual(end_of(text, (9, 8, 7)), ("end", (9, 8, 7), ((0, 0),)))

    def test_one_behind_the_other(self):
        text = "cell a 1\ncell b 2\nmain\nset a b\nset b (+ a b)\nset a (* a b)\nend"
        self.assertEqual(end_of(text), ("end", (8, 4), ()))

    def test_put(self):
        text = "cell a 1\nrow r 2\nrow s 3\nmain\nput r 1 5\nput s 4 6\nput s 2 (at s 1)\nput r (at r 1) 9\nend"
        self.assertEqual(end_of(text), ("end", (1,), ((0, 9), (0, 6, 6))))
        self.assertEqual(end_of("cell a 0\nrow r 3\nmain\nput r (- 0 1) 4\nend"), ("end", (0,), ((4, 0, 0),)))
        self.assertEqual(end_of("cell a 0\nrow r 1\nmain\nput r 7 4\nend"), ("end", (0,), ((4,),)))

    def test_a_put_takes_its_own_row_as_it_was(self):
        text = "cell a 0\nrow r 2\nmain\nput r 0 1\nput r (at r 0) (+ (at r 0) (at r 1))\nend"
        self.assertEqual(end_of(text), ("end", (0,), ((1, 1),)))

    def test_while(self):
        text = "cell a 5\ncell b 1\nmain\nwhile a\nset b (* b a)\nset a (- a 1)\nend\nend"
        self.assertEqual(end_of(text), ("end", (0, 120), ()))
        self.assertEqual(end_of(text, (0,)), ("end", (0, 1), ()))

    def test_a_while_within_a_while(self):
        text = (
            "cell a 3\ncell b 0\ncell c 0\nmain\nwhile a\nset b 4\nwhile b\nset c (+ c a)\nset b (- b 1)\nend\n"
            "set a (- a 1)\nend\nend"
        )
        self.assertEqual(end_of(text), ("end", (0, 0, 24), ()))

    def test_if(self):
        text = "cell a 0\ncell b 0\nmain\nif a\nset b 1\nelse\nset b 2\nend\nset a (+ b 5)\nend"
        self.assertEqual(end_of(text), ("end", (7, 2), ()))
        self.assertEqual(end_of(text, (1,)), ("end", (6, 1), ()))
        self.assertEqual(end_of(text, (2,)), ("end", (6, 1), ()))
        self.assertEqual(end_of(text, (LAST,)), ("end", (6, 1), ()))

    def test_an_if_is_told_once(self):
        text = "cell a 1\ncell b 0\nmain\nif a\nset a 0\nset b (+ b 1)\nelse\nset b 9\nend\nend"
        self.assertEqual(end_of(text), ("end", (0, 1), ()))

    def test_empty_bodies(self):
        text = "cell a 1\ndef f\nend\nmain\nif a\nelse\nend\nif 0\nelse\nend\nwhile 0\nend\ncall f\nend"
        self.assertEqual(ran(text, (), 4), ([((1,), (), (0,))], ("end", (1,), ())))

    def test_one_name_of_all_three(self):
        text = "cell x 1\nrow x 2\ndef x\nput x x (+ x 4)\nend\nmain\ncall x\nset x (at x x)\nend"
        self.assertEqual(ran(text), ([((1,), ((0, 0),), (0,))], ("end", (5,), ((0, 5),))))


class Calls(unittest.TestCase):
    def test_states_right_behind_each_call(self):
        text = "cell a 1\nrow r 2\ndef f\nset a (+ a 1)\nput r a a\nend\nmain\ncall f\nset a (* a 5)\ncall f\nend"
        self.assertEqual(
            ran(text),
            (
                [((1,), ((0, 0),), (0,)), ((10,), ((2, 0),), (1,))],
                ("end", (11,), ((2, 11),)),
            ),
        )

    def test_defs_ahead_and_behind(self):
        text = "cell a 0\ndef f\ncall g\nend\ndef g\nset a (+ a 1)\ncall h\nend\ndef h\nend\nmain\ncall g\ncall f\nend"
        self.assertEqual(
            ran(text),
            (
                [
                    ((0,), (), (2,)),
                    ((1,), (), (2, 1)),
                    ((1,), (), (3,)),
                    ((1,), (), (3, 0)),
                    ((2,), (), (3, 0, 1)),
                ],
                ("end", (2,), ()),
            ),
        )

    def test_a_def_behind_that_calls_one_ahead(self):
        text = "cell a 0\ndef f\nset a 7\nend\ndef g\ncall f\nend\nmain\ncall g\nend"
        self.assertEqual(ran(text), ([((0,), (), (1,)), ((0,), (), (1, 0))], ("end", (7,), ())))

    def test_a_def_that_calls_itself(self):
        states, end = ran(nested_calls(3))
        self.assertEqual(states, [((0,), (), (1,)), ((1,), (), (1, 0)), ((2,), (), (1, 0, 0))])
        self.assertEqual(end, ("end", (3,), ()))

    def test_six_waiting_are_not_too_many(self):
        states, end = ran(nested_calls(6))
        self.assertEqual(states[-1], ((5,), (), (1, 0, 0, 0, 0, 0)))
        self.assertEqual(len(states), 6)
        self.assertEqual(end, ("end", (6,), ()))

    def test_the_seventh_waiting_call_is_stuck(self):
        states, end = ran(nested_calls(7))
        self.assertEqual(states[-1], ((5,), (), (1, 0, 0, 0, 0, 0)))
        self.assertEqual(len(states), 6)
        self.assertEqual(end, ("stuck", (6,), ()))

    def test_stuck_is_the_end(self):
        text = "cell a 0\nrow r 1\ndef f\nput r 0 (+ (at r 0) 1)\ncall f\nset a 9\nend\nmain\ncall f\nset a 8\nend"
        self.assertEqual(end_of(text), ("stuck", (0,), ((6,),)))

    def test_six_may_wait_again_and_again(self):
        text = (
            "cell a 0\ncell k 3\ndef f\nset a (+ a 1)\nif (< a 6)\ncall f\nelse\nend\nend\n"
            "main\nwhile k\nset a 0\ncall f\nset k (- k 1)\nend\nend"
        )
        states, end = ran(text)
        self.assertEqual(end, ("end", (6, 0), ()))
        self.assertEqual([len(state[2]) for state in states], [1, 2, 3, 4, 5, 6] * 3)

    def test_numbers_within_statements(self):
        text = (
            "cell a 2\ndef f\nif a\ncall g\nelse\ncall g\nend\nend\ndef g\nend\n"
            "main\ncall g\nwhile a\ncall f\nif (= a 1)\ncall g\nelse\ncall f\ncall g\nend\n"
            "set a (- a 1)\nend\ncall f\nend"
        )
        states, end = ran(text)
        self.assertEqual(end, ("end", (0,), ()))
        self.assertEqual(
            [state[2] for state in states],
            [(2,), (3,), (3, 0), (5,), (5, 0), (6,), (3,), (3, 0), (4,), (7,), (7, 1)],
        )

    def test_a_while_that_is_passed_by(self):
        text = "cell a 0\ndef f\nend\nmain\nwhile a\ncall f\ncall f\nend\ncall f\nend"
        self.assertEqual(ran(text)[0], [((0,), (), (2,))])

    def test_one_statement_in_several_places(self):
        call = ("call", "f")
        program = ((("a", 0),), (), (("f", ()),), (call, call, ("if", ("num", 1), (call,), (call,)), call))
        self.assertEqual([state[2] for state in plain_run(program, (), 9)[0]], [(0,), (1,), (2,), (4,)])


class Turns(unittest.TestCase):
    def just(self, text, turns, numbers=()):
        """Turns are enough, one less, and none, are not."""
        told = ran(text, numbers, turns)
        self.assertEqual(ran(text, numbers, turns + 1), told)
        for most in range(max(0, turns - 2), turns):
            with self.assertRaises(TooLong) as taken:
                ran(text, numbers, most)
            self.assertEqual(taken.exception.most, most)
            self.assertIsInstance(taken.exception, CourtError)

    def test_single_statements(self):
        self.just("cell a 0\nmain\nend", 0)
        self.just("cell a 0\nmain\nset a 1\nend", 1)
        self.just("cell a 0\nrow r 1\nmain\nset a 1\nput r a (at r a)\nend", 2)

    def test_while(self):
        text = "cell a 5\nmain\nwhile a\nset a (- a 1)\nend\nend"
        self.just(text, 11)
        self.just(text, 1, (0,))
        self.just(text, 3, (1,))

    def test_a_while_within_a_while(self):
        text = "cell a 3\ncell b 0\nmain\nwhile a\nset b 2\nwhile b\nset b (- b 1)\nend\nset a (- a 1)\nend\nend"
        self.just(text, 1 + 3 * (1 + 5 + 1 + 1))

    def test_if(self):
        text = "cell a 0\nmain\nif a\nset a 1\nset a 1\nelse\nset a 1\nend\nend"
        self.just(text, 2)
        self.just(text, 3, (1,))
        self.just("cell a 0\nmain\nif a\nelse\nend\nend", 1)

    def test_calls(self):
        self.just("cell a 0\ndef f\nend\nmain\ncall f\nend", 1)
        self.just("cell a 0\ndef f\nset a 1\nset a 2\nend\nmain\ncall f\ncall f\nend", 6)

    def test_a_call_that_is_not_done(self):
        self.just("cell a 0\ndef f\ncall f\nend\nmain\ncall f\nset a 1\nend", 7)
        self.just(nested_calls(7), 1 + 5 * 3 + 3)

    def test_without_an_end(self):
        for text in ("cell a 1\nmain\nwhile 1\nend\nend", "cell a 1\nmain\nwhile a\nset a (+ a 2)\nend\nend"):
            for most in (0, 1, 2, 7, 5000):
                with self.assertRaises(TooLong) as taken:
                    ran(text, (), most)
                self.assertEqual(taken.exception.most, most)

    def test_the_most_that_are_asked_for(self):
        text = "cell a 2499\nmain\nset a a\nwhile a\nset a (- a 1)\nend\nend"
        self.just(text, 5000)


class Told(unittest.TestCase):
    def test_kinds(self):
        told = ran(nested_calls(2))
        self.assertIs(type(told), tuple)
        self.assertIs(type(told[0]), list)
        self.assertIs(type(told[1]), tuple)
        states, end = ran("cell a 0\nrow r 2\ndef f\nend\nmain\ncall f\nend")
        self.assertEqual([type(part) for part in states[0]], [tuple] * 3)
        self.assertEqual([type(part) for part in end], [str, tuple, tuple])
        self.assertEqual((type(states[0][1][0]), type(end[2][0])), (tuple, tuple))

    def test_a_new_list_each_time(self):
        program = read(nested_calls(4))
        first = plain_run(program, (), 100)
        kept = list(first[0])
        first[0].clear()
        self.assertEqual(plain_run(program, (), 100)[0], kept)

    def test_nothing_handed_in_is_changed(self):
        text = "cell a 1\nrow r 2\ndef f\nput r a (+ a 1)\nset a 0\nend\nmain\ncall f\ncall f\nend"
        program = read(text)
        numbers = (3,)
        told = plain_run(program, numbers, 50)
        self.assertEqual(program, read(text))
        self.assertEqual(numbers, (3,))
        self.assertEqual(plain_run(program=program, numbers=numbers, most=50), told)
        self.assertEqual(told[0], [((3,), ((0, 0),), (0,)), ((0,), ((0, 4),), (1,))])

    def test_a_great_depth(self):
        text = "cell a 1\nmain\n" + "if a\n" * 300 + "set a 2\n" + "else\nend\n" * 300 + "end"
        self.assertEqual(end_of(text, (), 301), ("end", (2,), ()))


if __name__ == "__main__":
    unittest.main()
