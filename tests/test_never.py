"""Promises [2], [6] (the order of parts) and [8], and the interface, ownglass/never.py."""

import unittest

from ownglass.errors import BadInputs, BadProgram, BadText, GlassError
from ownglass.machine import run_program
from ownglass.never import check_never, watch_program
from ownglass.texts import read_value, write_value
from reference import Maker, ReferenceRun

# A program, its inputs, and the pair with the least second number, counted by hand.
PAPERS = (
    ("((main () (main)))", (), (1, 2)),
    ("((main () (head (main))))", (), (1, 3)),
    ("((main (x) (main x)))", ("a",), (1, 3)),
    ("((main (x) (main x)))", ("(a (b) ())",), (1, 3)),
    ("((main (x) (spin x)) (spin (y) (spin y)))", ("a",), (3, 5)),
    ("((main (x) (other x)) (other (y) (main y)))", ("a",), (1, 5)),
    ("((main (x y) (main y x)))", ("a", "b"), (1, 7)),
    ("((main (x y) (main y x)))", ("a", "a"), (1, 4)),
    ("((main (x y z) (main y z x)))", ("a", "b", "c"), (1, 13)),
    ("((main (x y z) (main y z x)))", ("a", "a", "b"), (1, 13)),
    ("((main (x) (main (head x))))", ("((a))",), (10, 13)),
    ("((main (x) (main (tail x))))", ("a",), (4, 7)),
    # Other values in between.
    ("((main (x) (if x (main (tail x)) (main x))))", ("(a b)",), (11, 15)),
    ("((main (x) (if x (main (tail x)) (main (quote (a b))))))", ("()",), (1, 15)),
    ("((main (x) (if x (main (tail x)) (main (quote (a b))))))", ("(c)",), (6, 20)),
    # Within the parts of calls, and within other parts.
    ("((main (x) (g (h x) x)) (h (y) (h (head y))) (g (y z) y))", ("(a)",), (10, 13)),
    ("((main (x) (g x (h x))) (h (y) (h y)) (g (y z) y))", ("a",), (5, 7)),
    ("((main (x) (if (word (main x)) x x)))", ("a",), (1, 5)),
    ("((main (x) (join x (same x (main x)))))", ("a",), (1, 7)),
    ("((main (x) (main (main x))))", ("a",), (1, 4)),
    # A closed call with the same values is no paper: the first id begins at 5, the other one at 8.
    ("((main (x) (loop (same (id x) (id x)))) (id (y) y) (loop (z) (loop z)))", ("a",), (9, 11)),
    ("((main (x) (if (id x) (spin (id x)) x)) (id (y) y) (spin (z) (join z (spin z))))", ("a",), (9, 13)),
    # The parts from left to right.
    ("((main (x) (join (one x) (two x))) (one (y) (one y)) (two (y) (word (two y))))", ("a",), (4, 6)),
    ("((main (x) (join (two x) (one x))) (one (y) (one y)) (two (y) (word (two y))))", ("a",), (4, 7)),
    ("((main (x) (same (two x) (one x))) (one (y) (one y)) (two (y) (word (two y))))", ("a",), (4, 7)),
    ("((main (x) (g x (two x) (one x))) (g (x y z) x) (one (y) (one y)) (two (y) (word (two y))))", ("a",), (5, 8)),
    ("((main (x) (join (id x) (one x))) (id (y) y) (one (y) (one y)))", ("a",), (7, 9)),
    ("((main (x) (join (id x) (join (id x) (one x)))) (id (y) y) (one (y) (one y)))", ("a",), (11, 13)),
    # A call of another function with the same values is another call.
    ("((main (x) (b x)) (b (x) (c x)) (c (x) (d x)) (d (x) (b x)))", ("a",), (3, 9)),
)

# Runs without a paper: a program, its inputs, and the steps if it ends.
NO_PAPERS = (
    ("((main () (quote a)))", (), 1),
    ("((main (x) x))", ("(a b)",), 1),
    ("((main (x) (join (id x) (id x))) (id (y) y))", ("a",), 7),
    ("((main (x) (id (id (id (id x))))) (id (y) y))", ("a",), 9),
    ("((main (x) (if x (main (tail x)) (quote end))))", ("(a a a)",), 18),
    ("((main (x) (if (id (id x)) (if (id x) (id x) x) x)) (id (y) y))", ("a",), 13),
    ("((main (x) (main (join x x))))", ("()",), None),
    ("((main (x) (join (main (join x x)) x)))", ("a",), None),
    ("((main (x) (main (join x (quote ())))))", ("a",), None),
    ("((main (x y) (main (join (quote a) x) (id y))) (id (z) z))", ("()", "b"), None),
)

GROW = "(grow (n x) (if n (grow (tail n) (join x x)) x))"


def read_all(texts):
    return [read_value(text) for text in texts]


class WatchTest(unittest.TestCase):
    def test_papers(self):
        for text, inputs, paper in PAPERS:
            program, values = read_value(text), read_all(inputs)
            for limit in (paper[1], paper[1] + 1, 1000, 1000000):
                self.assertEqual(watch_program(program, values, limit), ("never", paper), text)
            self.assertEqual(watch_program(program, tuple(values), 1000), ("never", paper), text)

    def test_limits_below_the_second_number(self):
        for text, inputs, paper in PAPERS:
            program, values = read_value(text), read_all(inputs)
            for limit in range(paper[1]):
                self.assertEqual(watch_program(program, values, limit), ("tired",), text)

    def test_runs_that_end_without_a_paper(self):
        for text, inputs, steps in NO_PAPERS:
            program, values = read_value(text), read_all(inputs)
            if steps is not None:
                value = run_program(program, values, 1000).value
                for limit in (steps, steps + 1, 1000000):
                    self.assertEqual(watch_program(program, values, limit), ("done", value, steps), text)
                for limit in range(steps):
                    self.assertEqual(watch_program(program, values, limit), ("tired",), text)

    def test_runs_that_go_on_without_a_paper(self):
        for text, inputs, steps in NO_PAPERS:
            if steps is None:
                for limit in (0, 1, 2, 50, 40000):
                    self.assertEqual(watch_program(read_value(text), read_all(inputs), limit), ("tired",), text)

    def test_great_runs(self):
        program = read_value(f"((main (n x) (grow n x)) {GROW})")
        for times in (18, 70, 300):
            steps = 8 * times + 6
            given = [("a",) * times, ()]
            self.assertEqual(watch_program(program, given, steps), ("great", steps))
            self.assertEqual(watch_program(program, given, 1000000), ("great", steps))
            self.assertEqual(watch_program(program, given, steps - 1), ("tired",))

    def test_doubled_values_are_compared_within_the_steps(self):
        spin = "(spin (x y) (spin y x))"
        text = f"((main (n x y) (if n (main (tail n) (join x x) (join y y)) (spin x y))) {spin})"
        program = read_value(text)
        for times in (70, 300):
            first = 11 * times + 6
            given = [("a",) * times, (), ()]
            self.assertEqual(watch_program(program, given, 100000), ("never", (first, first + 3)))
            self.assertTrue(check_never(program, given, (first, first + 3)))
            given = [("a",) * times, (), "a"]
            self.assertEqual(watch_program(program, given, 100000), ("never", (first, first + 6)))
            self.assertFalse(check_never(program, given, (first, first + 3)))

    def test_doubling_for_ever(self):
        program = read_value("((main (x y) (main (join x x) (join y y))))")
        self.assertEqual(watch_program(program, ["a", ()], 200000), ("tired",))

    def test_an_open_call_far_below(self):
        # Calls of main are open with ever shorter lists, then spin asks main for the first one again.
        text = "((main (x y) (if x (join x (main (tail x) y)) (main y y))))"
        program = read_value(text)
        for length in (1, 2, 100, 20000):
            given = [("a",) * length, ("a",) * length]
            paper = (1, 8 * length + 6)
            self.assertEqual(watch_program(program, given, 1000000), ("never", paper))
            self.assertIs(check_never(program, given, paper), True)
            self.assertIs(check_never(program, given, (paper[0], paper[1] - 8)), False)

    def test_the_kinds_of_what_is_told(self):
        told = watch_program(read_value("((main (x) (main x)))"), ["a"], 3)
        self.assertIs(type(told), tuple)
        self.assertIs(type(told[1]), tuple)
        self.assertEqual([type(number) for number in told[1]], [int, int])
        self.assertIs(type(watch_program(read_value("((main (x) x))"), ["a"], 3)), tuple)


class CheckTest(unittest.TestCase):
    def check(self, text, inputs, right, wrong):
        program, values = read_value(text), read_all(inputs)
        for paper in right:
            self.assertIs(check_never(program, values, paper), True, (text, paper))
        for paper in wrong:
            self.assertIs(check_never(program, values, paper), False, (text, paper))

    def test_the_papers_told(self):
        for text, inputs, (first, second) in PAPERS:
            wrong = [(second, first), (first, first), (second, second), (0, second), (first - 2, second),
                     (-first, second), (first, -second), (-second, -first), (0, 0), (first, first + 1)]
            self.check(text, inputs, [(first, second)], [pair for pair in wrong if pair != (first, second)])

    def test_turns_of_one_call(self):
        self.check("((main (x) (main x)))", ("a",),
                   [(1, 3), (1, 5), (3, 5), (5, 9), (1, 1001), (999, 1001)],
                   [(1, 2), (2, 3), (2, 4), (1, 4), (4, 6), (0, 1), (0, 2), (-1, 1), (-1, 3), (3, 1), (1, 1000)])
        self.check("((main () (main)))", (), [(1, 2), (2, 3), (1, 100), (77, 78)], [(0, 1), (1, 1), (2, 1)])

    def test_whole_turns_of_several_calls(self):
        self.check("((main (x y) (main y x)))", ("a", "b"),
                   [(1, 7), (4, 10), (7, 13), (1, 13), (4, 16), (10, 100)],
                   [(1, 4), (1, 10), (4, 7), (1, 6), (1, 8), (2, 8), (3, 9), (7, 1), (13, 1)])
        self.check("((main (x) (other x)) (other (y) (main y)))", ("a",),
                   [(1, 5), (3, 7), (1, 9), (3, 11)], [(1, 3), (3, 5), (1, 7), (5, 7)])

    def test_a_run_that_comes_to_its_turns_late(self):
        self.check("((main (x) (if x (main (tail x)) (main x))))", ("(a b)",),
                   [(11, 15), (11, 19), (15, 19), (111, 131)], [(1, 6), (6, 11), (1, 11), (1, 15), (6, 15), (10, 14)])

    def test_closed_calls(self):
        # id begins at 5 and 8, and loop at 9, 11 and so on.
        self.check("((main (x) (loop (same (id x) (id x)))) (id (y) y) (loop (z) (loop z)))", ("a",),
                   [(9, 11), (9, 13), (11, 13)], [(5, 8), (1, 5), (1, 9), (5, 9), (8, 11), (5, 11)])
        # Calls of id begin at 4, 8 and 12 within a run that never ends.
        self.check("((main (x) (g (id x) (id x) (id x))) (id (y) y) (g (x y z) (main x)))", ("a",),
                   [(1, 13), (11, 23), (1, 25)], [(4, 7), (4, 10), (7, 10), (4, 16), (10, 16), (1, 11), (13, 24)])

    def test_runs_that_end(self):
        self.check("((main (x) (join (id x) (id x))) (id (y) y))", ("a",), [],
                   [(1, 4), (4, 7), (1, 7), (4, 8), (7, 8), (8, 9), (1, 100), (4, 100), (100, 200), (1, 10000000),
                    (9999999, 10000000)])
        self.check("((main (x) x))", ("a",), [], [(1, 2), (1, 1), (2, 3), (1, 10000000), (5000000, 10000000)])
        self.check("((main (x) (if x (main (tail x)) x)))", ("(a a a a)",), [],
                   [(1, 6), (6, 11), (1, 11), (1, 21), (16, 21), (21, 26), (1, 26)])

    def test_numbers_beyond_the_bound(self):
        self.check("((main (x) (main x)))", ("a",), [],
                   [(1, 10000001), (10000001, 10000003), (9999999, 10000001), (1, 10 ** 30 + 1), (10 ** 30, 10 ** 31)])
        self.check("((main () (main)))", (), [], [(1, 10000001), (10000000, 10000001), (10000001, 10000002)])

    def test_numbers_up_to_the_bound(self):
        self.check("((main () (main)))", (), [(1, 10000000), (9999999, 10000000)], [])

    def test_large_numbers(self):
        self.check("((main (x) (main x)))", ("a",), [(1, 50001), (20001, 60001), (69999, 70001)],
                   [(1, 50000), (20000, 60000), (20001, 60002), (60001, 20001)])
        self.check("((main (x y z) (word (main y z x))))", ("a", "b", "c"), [(1, 60001), (30001, 60001), (6, 75006)],
                   [(1, 60000), (1, 60006), (1, 60011), (2, 60002)])

    def test_runs_that_go_on_without_a_paper(self):
        for text, inputs, steps in NO_PAPERS:
            if steps is None:
                program, values = read_value(text), read_all(inputs)
                told = ReferenceRun(program, values, 60)
                begins = [call.begin for call in told.calls]
                self.check(text, inputs, [], [(m, n) for m in begins for n in begins])
                self.check(text, inputs, [], [(1, 40000), (1, 40001), (1, 40002), (20000, 40000), (39999, 40001)])


class RandomTest(unittest.TestCase):
    def test_random_programs(self):
        found = 0
        for seed in range(600):
            maker = Maker(seed)
            program = maker.program()
            inputs = [maker.value() for _ in program[0][1]]
            for limit in (0, 1, 9, 40, 100):
                told = ReferenceRun(program, inputs, limit)
                papers = told.first_papers()
                answer = {"done": ("done", told.value, told.steps), "great": ("great", told.steps), "tired": ("tired",)}
                right = ("never", papers[0]) if papers else answer[told.kind]
                self.assertEqual(watch_program(program, inputs, limit), right)
                self.assertLessEqual(len(papers), 1)
                found += len(papers)
        self.assertGreater(found, 200)

    def test_random_papers(self):
        for seed in range(60):
            maker = Maker(seed)
            program = maker.program()
            inputs = [maker.value() for _ in program[0][1]]
            told = ReferenceRun(program, inputs, 40)
            for first in range(25):
                for second in range(25):
                    right = told.is_paper(first, second)
                    self.assertIs(check_never(program, inputs, (first, second)), right)


class WrongTest(unittest.TestCase):
    def check_raises(self, error, other, program, inputs):
        for call in (lambda: watch_program(program, inputs, 10), lambda: watch_program(program, inputs, 0),
                     lambda: check_never(program, inputs, (1, 3)), lambda: check_never(program, inputs, (3, 1))):
            with self.assertRaises(error) as caught:
                call()
            self.assertIsInstance(caught.exception, GlassError)
            self.assertIsInstance(caught.exception, ValueError)
            self.assertNotIsInstance(caught.exception, (other, BadText))

    def test_wrong_numbers_of_inputs(self):
        for right in (0, 1, 2, 12):
            names = tuple("abcdefghijkl"[:right])
            program = (("main", names, ("main", *names)),)
            for count in range(15):
                if count != right:
                    self.check_raises(BadInputs, BadProgram, program, ["a"] * count)
                    self.check_raises(BadInputs, BadProgram, program, ("a",) * count)

    def test_bad_programs(self):
        for text in ("()", "a", "((main (x) y))", "((main (x) x) (other (x) (nobody x)))"):
            for count in range(3):
                self.check_raises(BadProgram, BadInputs, read_value(text), ["a"] * count)

    def test_the_number_of_the_wrong_function(self):
        program = read_value("((main (x) x) (other (x) (nobody x)))")
        for call in (lambda: watch_program(program, [], 10), lambda: check_never(program, [], (1, 3))):
            with self.assertRaises(BadProgram) as caught:
                call()
            self.assertEqual(caught.exception.function, 1)


class ArgumentsTest(unittest.TestCase):
    def test_arguments_are_as_they_were_and_answers_the_same_again(self):
        for text, inputs, paper in PAPERS:
            program, values = read_value(text), read_all(inputs)
            told = [(watch_program(program, values, 100), check_never(program, values, paper)) for _ in range(2)]
            self.assertEqual(told[0], told[1])
            self.assertEqual(write_value(program), text)
            self.assertEqual([write_value(value) for value in values], list(inputs))


if __name__ == "__main__":
    unittest.main()
