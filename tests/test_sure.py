"""Promises [2], [20] and [21], and the interface, ownglass/sure.py."""

import itertools
import unittest

from ownglass.errors import BadInputs, BadProgram, BadText, GlassError
from ownglass.machine import run_program
from ownglass.programs import check_program
from ownglass.sure import check_sure, sure_paper
from ownglass.texts import read_value, write_value
from reference import Maker, is_sure_paper, least_sure_paper

# A program, and its least paper.
PAPERS = (
    # Functions that belong to nothing.
    ("((main (x) x))", (0,)),
    ("((main () (quote a)))", (0,)),
    ("((main (x) (other (join x x))) (other (y) (third y y)) (third (y z) z))", (0, 0, 0)),
    ("((main (x) (other (other x))) (other (y) y))", (0, 0)),
    ("((main () (other)) (other () (quote a)))", (0, 0)),
    # One function that calls itself, with parts at several depths.
    ("((main (x) (if x (main (tail x)) x)))", (0,)),
    ("((main (x) (if x (main (head x)) x)))", (0,)),
    ("((main (x) (if x (main (head (tail (tail (head x))))) x)))", (0,)),
    ("((main (x) (if x (main x) x)))", None),
    ("((main (x) (main (tail x))))", None),
    ("((main (x) (if x (main (join x x)) x)))", None),
    ("((main (x) (if x (main (tail (join x x))) x)))", None),
    ("((main (x) (if x (main (join (tail x) x)) x)))", None),
    ("((main (x) (if x (main (quote ())) x)))", None),
    ("((main (x) (if x (main (head (quote (a)))) x)))", None),
    ("((main (x) (if x (main (if x (tail x) (tail x))) x)))", None),
    ("((main (x) (if x (main (word x)) x)))", None),
    ("((main (x) (if x (main (tail (word x))) x)))", None),
    ("((main (x) (if x (main (tail (main x))) x)))", None),
    # Where the call stands.
    ("((main (x) (if x x (main (tail x)))))", None),
    ("((main (x) (if (main (tail x)) x x)))", None),
    ("((main (x) (if (quote a) (main (tail x)) x)))", None),
    ("((main (x) (if (tail x) (main (tail x)) x)))", None),
    ("((main (x) (if (head x) (main (head x)) x)))", None),
    ("((main (x) (if (word x) x (main (tail x)))))", None),
    ("((main (x) (if (same x (quote ())) x (main (tail x)))))", None),
    ("((main (x) (if (join x x) (main (tail x)) x)))", None),
    ("((main (x) (if (if x x x) (main (tail x)) x)))", None),
    ("((main (x) (if x (if (main (tail x)) x x) x)))", (0,)),
    ("((main (x) (if x (if x x (main (tail x))) x)))", (0,)),
    ("((main (x) (if x (if (tail x) (main (tail (tail x))) (main (tail x))) x)))", (0,)),
    ("((main (x) (if (tail x) (if x (main (tail x)) x) x)))", (0,)),
    ("((main (x) (if (tail x) x (if x (main (tail x)) x))))", (0,)),
    ("((main (x) (if x (join (head x) (join x (word (same (main (tail x)) (main (head x)))))) x)))", (0,)),
    ("((main (x) (if x (join (main (tail x)) (if x x (main (tail x)))) (main (tail x)))))", None),
    ("((main (x) (join (if x x x) (main (tail x)))))", None),
    ("((main (x) (join (if x x x) (if x (main (tail x)) x))))", (0,)),
    ("((main (x) (tail (head (word (if x (head (main (tail x))) x))))))", (0,)),
    ("((main (x y) (if x (if y (main (tail x) y) x) x)))", (0,)),
    ("((main (x y) (if y (if x (main (tail x) y) x) x)))", (0,)),
    ("((main (x y) (if y (main (tail x) y) x)))", None),
    ("((main (x y) (if x (if y x (main (tail x) y)) x)))", (0,)),
    ("((main (x y) (if x (if y x (main x (tail y))) x)))", None),
    # Calls in the parts of calls.
    ("((main (x) (if x (main (tail x)) (id (main (tail x))))) (id (y) y))", None),
    ("((main (x) (if x (id (main (tail x))) x)) (id (y) y))", (0, 0)),
    ("((main (x) (if x (id (id (main (tail x)))) x)) (id (y) (join y y)))", (0, 0)),
    ("((main (x y) (if x (main (tail x) (main (tail x) y)) y)))", (0,)),
    ("((main (x y) (if x (main (tail x) (main x y)) y)))", None),
    ("((main (x y) (if x (main (head x) (main (tail x) (main (head (tail x)) y))) y)))", (0,)),
    ("((main (x y) (if x (main (main (tail x) y) y) y)))", None),
    ("((main (x y) (if x (main (tail x) (id (main y y))) y)) (id (z) z))", None),
    # Which parameters would do.
    ("((main (x y z) (if x (main (tail x) y z) x)))", (0,)),
    ("((main (x y z) (if y (main x (tail y) z) x)))", (1,)),
    ("((main (x y z) (if z (main x y (tail z)) x)))", (2,)),
    ("((main (x y z) (if y (if z (main z (head y) (tail z)) x) x)))", (1,)),
    ("((main (x y z) (if x (if y (if z (main (tail x) (tail y) (tail z)) x) x) x)))", (0,)),
    ("((main (x y) (if x (if y (join (main (tail x) y) (main x (tail y))) x) x)))", None),
    ("((main (x y) (if x (if y (join (main (tail x) (tail y)) (main x (tail y))) x) x)))", (1,)),
    ("((main (x y) (if x (main (tail y) (tail x)) y)))", None),
    ("((main (x y) (if x (if y (main (tail y) (tail x)) y) y)))", None),
    ("((main (x y) (if x (main y (tail x)) y)))", None),
    ("((main (x y) (if x (main (tail x) (tail x)) y)))", (0,)),
    ("((main (y x) (if x (main (tail x) (tail x)) y)))", (1,)),
    ("((main (a b c d e f g h i j k l) (if l (main b c d e f g h i j k a (tail l)) a)))", (11,)),
    # Without a parameter.
    ("((main () (main)))", None),
    ("((main () (if (quote ()) (main) (quote a))))", None),
    ("((main (x) x) (other () (other)))", None),
    ("((main (x) (if x (other) x)) (other () (main (quote a))))", None),
    ("((main () (other (quote a))) (other (x) (if x (other (tail x)) (quote b))))", (0, 0)),
    # Functions that call one another in rings.
    ("((main (x) (if x (other (tail x)) x)) (other (y) (if y (main (tail y)) y)))", (0, 0)),
    ("((main (x) (if x (other (tail x)) x)) (other (y) (main y)))", None),
    ("((main (x) (if x (other (tail x)) x)) (other (y) (main (tail y))))", None),
    ("((main (x) (if x (other x) x)) (other (y) (if y (main (tail y)) y)))", None),
    ("((main (x y) (if y (other (tail y) x) x)) (other (y x) (if y (main x (head y)) y)))", (1, 0)),
    ("((main (x y) (if y (other x (tail y)) x)) (other (y x) (if y (main x (head y)) y)))", None),
    ("((a (x y) (if y (b y (tail y)) x)) (b (x y) (if y (c (tail y) x) x)) (c (x y) (if x (a y (tail x)) x)))",
     (1, 1, 0)),
    ("((a (x y) (if y (b y (tail y)) x)) (b (x y) (if y (c (tail y) x) x)) (c (x y) (if y (a y (tail x)) x)))", None),
    ("((a (x) (if x (b (tail x) x) x)) (b (x y) (if x (c x x (tail x)) y)) (c (x y z) (if z (a (tail z)) x)))",
     (0, 0, 2)),
    ("((a (x y) (if x (if y (b (tail x) (tail y)) x) x)) (b (x y) (if x (if y (a (tail x) (tail y)) x) x)))", (0, 0)),
    ("((a (x y) (if x (if y (b (tail x) (tail y)) x) x)) (b (x y) (if x (if y (a (tail y) (tail x)) x) x)))", None),
    ("((a (x y) (if x (if y (b (tail x) (tail y)) x) x)) (b (x y) (if y (a (tail x) (tail y)) x)))", (1, 1)),
    # The way round is (0, 1), (1, 0): the least paper is that of the first function's least parameter.
    ("((a (x y) (if x (if y (b (tail y) (tail x)) x) x)) (b (x y) (if x (if y (a (tail y) (tail x)) x) x)))", (0, 1)),
    ("((a (x y) (if x (if y (b (tail y) (tail x)) x) x)) (b (x y) (if x (a (tail y) (tail x)) x)))", (1, 0)),
    # Rings that others call, and two rings.
    ("((main (x) (ring (join x x))) (ring (y) (if y (ring (tail y)) y)))", (0, 0)),
    ("((ring (y) (if y (ring (tail y)) y)) (main (x) (ring (join x x))))", (0, 0)),
    ("((main (z x) (join z (ring x (other x)))) (ring (x y) (if y (ring x (tail y)) y)) (other (x) x))", (0, 1, 0)),
    ("((ring (x y) (if y (join (other x) (ring x (tail y))) y)) (other (x) x) (last (a b) (ring a b)))", (1, 0, 0)),
    ("((one (x y) (if y (one (two x x) (tail y)) y)) (two (x y) (if x (two (head x) y) (two2 x y)))"
     " (two2 (x y) (quote a)))", (1, 0, 0)),
    ("((one (x y) (if y (one x (tail y)) (two x y))) (two (x y) (if y (two x y) x)))", None),
    ("((a (x y) (if y (b (tail y)) (c x y))) (c (x y) (if y (d (tail y)) x)) (b (z) (if z (a z z) z))"
     " (d (z) z))", None),
    ("((a (x y) (if y (b (tail y)) (c x y))) (c (x y) (if y (d x (tail y)) x)) (b (z) (if z (a z (head z)) z))"
     " (d (z w) (if w (c z (tail w)) z)))", (1, 1, 0, 1)),
    # Quoted values have no expressions.
    ("((main (x) (quote (main x))))", (0,)),
    ("((main (x) (if x (main (tail x)) (quote (main x)))))", (0,)),
    ("((main (x) (if x (main (tail x)) (quote (if x (main x) x)))))", (0,)),
    ("((main (x) (if x (main (quote (tail x))) x)))", None),
    ("((main (x) (other (quote (main x)))) (other (y) y))", (0, 0)),
    # Names that are used for functions and parameters, or like parameters of another function.
    ("((main (main) (if main (main (tail main)) main)))", (0,)),
    ("((main (other) (if other (other (tail other)) other)) (other (main) (if main (main (tail main)) main)))", (0, 0)),
    ("((main (x y) (if x (other (tail x)) y)) (other (y) (if y (main (tail y) y) y)))", (0, 0)),
    ("((main (x y) (if y (other (tail y)) y)) (other (y) (if y (main (tail y) y) y)))", None),
    # Functions that are not called at all count, too.
    ("((main (x) x) (other (x) (other x)))", None),
    ("((main (x) x) (other (y x) (if x (other y (tail x)) x)))", (0, 1)),
)


class SureTest(unittest.TestCase):
    def check_paper(self, program, paper):
        self.assertEqual(sure_paper(program), paper, write_value(program))
        if paper is not None:
            self.assertIs(type(sure_paper(program)), tuple)
            self.assertEqual([type(number) for number in sure_paper(program)], [int] * len(program))
            self.assertIs(check_sure(program, paper), True)


class PaperTest(SureTest):
    def test_papers(self):
        for text, paper in PAPERS:
            self.check_paper(read_value(text), paper)

    def test_no_paper_is_less(self):
        for text, paper in PAPERS:
            program = read_value(text)
            if len(program[0][1]) <= 3:
                self.assertEqual(least_sure_paper(program), paper, text)

    def test_where_there_is_a_paper_every_run_ends(self):
        given = read_value("((a (b c) d) ((e)) (f (g) (((h)) i)) j)")
        for text, paper in PAPERS:
            program = read_value(text)
            if paper is not None:
                self.assertEqual(run_program(program, [given] * len(program[0][1]), 1000000).kind, "done", text)

    def test_a_long_ring(self):
        for count in (2, 50, 4000):
            rows = [(f"g{k}", ("x", "y"), ("if", "y", (f"g{(k + 1) % count}", "x", ("tail", "y")), "x")) for k in range(count)]
            self.check_paper(tuple(rows), (1,) * count)
            rows[count // 2] = (f"g{count // 2}", ("x", "y"), (f"g{count // 2 + 1 if count > 2 else 0}", "x", ("tail", "y")))
            self.check_paper(tuple(rows), None)

    def test_a_long_row_of_functions(self):
        rows = [(f"g{k}", ("x",), (f"g{k + 1}", (f"g{k + 1}", "x"))) for k in range(4000)]
        rows.append(("g4000", ("y", "x"), ("if", "x", ("g4000", "y", ("tail", "x")), "x")))
        rows = [row if at != 3999 else ("g3999", ("x",), ("g4000", "x", "x")) for at, row in enumerate(rows)]
        self.check_paper(tuple(rows), (0,) * 4000 + (1,))
        self.check_paper(tuple(reversed(rows)), (1,) + (0,) * 4000)

    def test_many_rings(self):
        rows = []
        for k in range(1000):
            rows.append((f"a{k}", ("x", "y"), ("if", "y", (f"b{k}", ("head", "y"), "x"), "x")))
            rows.append((f"b{k}", ("x", "y"), ("if", "x", (f"a{k}", "y", ("tail", "x")), (f"a{k + 1}", "x", "y"))))
        rows.append(("a1000", ("x", "y"), "x"))
        self.check_paper(tuple(rows), (1, 0) * 1000 + (0,))

    def test_deep_bodies(self):
        for depth in (90, 5000):
            call = ("main", "x", ("tail", "y"))
            around = call
            part = "y"
            for k in range(depth):
                around = (("head", around), ("join", "x", around), ("if", "x", around, "x"), ("same", around, "x"))[k % 4]
                part = ("tail", part)
            self.check_paper((("main", ("x", "y"), ("if", "y", around, "x")),), (1,))
            self.check_paper((("main", ("x", "y"), ("if", "y", "x", around)),), None)
            self.check_paper((("main", ("x", "y"), ("if", "y", ("main", "x", part), "x")),), (1,))
            self.check_paper((("main", ("x", "y"), ("if", "x", ("main", "x", part), "x")),), None)


class CheckTest(SureTest):
    def test_all_papers_of_small_programs(self):
        for text, _ in PAPERS:
            program = read_value(text)
            if len(program) <= 3 and len(program[0][1]) <= 3:
                for paper in itertools.product((-2, -1, 0, 1, 2, 3, 12), repeat=len(program)):
                    self.assertIs(check_sure(program, paper), is_sure_paper(program, paper), (text, paper))

    def test_papers_that_are_not_the_least(self):
        text = "((main (x y z) (if x (if y (if z (main (tail x) (tail y) (tail z)) x) x) x)))"
        for number in range(-3, 13):
            self.assertIs(check_sure(read_value(text), (number,)), 0 <= number <= 2)
        text = "((a (x y) (if x (if y (b (tail y) (tail x)) x) x)) (b (x y) (if x (if y (a (tail y) (tail x)) x) x)))"
        right = [paper for paper in itertools.product(range(-1, 3), repeat=2) if check_sure(read_value(text), paper)]
        self.assertEqual(right, [(0, 1), (1, 0)])

    def test_papers_of_another_length(self):
        for text, paper in PAPERS:
            program = read_value(text)
            for length in range(6):
                if length != len(program):
                    self.assertIs(check_sure(program, (0,) * length), False)
                    self.assertIs(check_sure(program, ((paper or ()) + (0,) * length)[:length]), False)

    def test_numbers_of_functions_that_belong_to_nothing(self):
        program = read_value("((main (x y z) (ring x y)) (ring (x y) (if y (ring x (tail y)) (other x y))) (other (x y) x))")
        self.assertIs(check_sure(program, (0, 1, 0)), True)
        for number in (-3, -2, -1, 1, 2, 3):
            self.assertIs(check_sure(program, (number, 1, 0)), False)
            self.assertIs(check_sure(program, (0, 1, number)), False)
        for number in (-2, -1, 0, 2, 3):
            self.assertIs(check_sure(program, (0, number, 0)), False)

    def test_numbers_below_0_and_too_great(self):
        program = read_value("((main (x y) (if y (main x (tail y)) x)))")
        for number in (-10 ** 30, -2, -1, 0, 2, 3, 12, 10 ** 30):
            self.assertIs(check_sure(program, (number,)), False)
        self.assertIs(check_sure(program, (1,)), True)

    def test_programs_without_a_paper(self):
        for text, paper in PAPERS:
            program = read_value(text)
            if paper is None and len(program) <= 4:
                for other in itertools.product(range(2), repeat=len(program)):
                    self.assertIs(check_sure(program, other), False, text)


class RandomTest(SureTest):
    def test_random_programs(self):
        found = 0
        for seed in range(1500):
            maker = Maker(seed)
            program = maker.shrinking_program() if seed % 4 else maker.program()
            self.assertIsNone(check_program(program))
            paper = least_sure_paper(program)
            self.check_paper(program, paper)
            found += paper is not None
        self.assertGreater(found, 300)

    def test_random_papers(self):
        for seed in range(300):
            program = Maker(seed).shrinking_program()
            for paper in itertools.product(range(-1, 4), repeat=len(program)):
                self.assertIs(check_sure(program, paper), is_sure_paper(program, paper))


class WrongTest(SureTest):
    def test_bad_programs(self):
        wrong = (("()", 0), ("a", 0), ("((main (x) y))", 0), ("((main (x) x) (other (x) (nobody x)))", 1),
                 ("((main (x) x) (b (x) x) (main (x) x))", 2), ("((f3 (x) x))", 0))
        for text, function in wrong:
            program = read_value(text)
            for call in (lambda: sure_paper(program), lambda: check_sure(program, (0,)), lambda: check_sure(program, ())):
                with self.assertRaises(BadProgram) as caught:
                    call()
                self.assertEqual(caught.exception.function, function)
                self.assertIsInstance(caught.exception, GlassError)
                self.assertNotIsInstance(caught.exception, (BadInputs, BadText))


class ArgumentsTest(SureTest):
    def test_arguments_are_as_they_were_and_answers_the_same_again(self):
        for text, paper in PAPERS:
            program = read_value(text)
            self.check_paper(program, paper)
            self.check_paper(program, paper)
            self.assertEqual(write_value(program), text)


if __name__ == "__main__":
    unittest.main()
