"""Promises [2], [6] and [7], and the interface, ownglass/machine.py."""

import unittest

from ownglass.errors import BadInputs, BadProgram, BadText, GlassError
from ownglass.machine import Run, run_program
from ownglass.texts import read_value, same_values, write_value
from reference import Maker, ReferenceRun

TWELVE = "a b c d e f g h i j k l"

# The body of ((main (x) ..)), the input, the value, and the steps, counted by hand.
BODIES = (
    ("x", "a", "a", 1),
    ("x", "(a (b))", "(a (b))", 1),
    ("(quote a)", "b", "a", 1),
    ("(quote x)", "b", "x", 1),
    ("(quote (head x))", "(b)", "(head x)", 1),
    ("(quote ())", "b", "()", 1),
    ("(if x (quote p) (quote q))", "a", "p", 3),
    ("(if x (quote p) (quote q))", "(a)", "p", 3),
    ("(if x (quote p) (quote q))", "(())", "p", 3),
    ("(if x (quote p) (quote q))", "()", "q", 3),
    ("(if x x (head (head x)))", "a", "a", 3),
    ("(if x x (head (head x)))", "()", "()", 5),
    ("(if (if x (quote ()) x) (quote p) (quote q))", "a", "q", 5),
    ("(if (same x (quote a)) (head (quote (p q))) (tail (tail x)))", "a", "p", 6),
    ("(if (same x (quote a)) (head (quote (p q))) (tail (tail x)))", "(p q r)", "(r)", 7),
    ("(join (if x (head x) x) (if x (tail x) (quote (z))))", "(a b)", "(a b)", 9),
    ("(join (if x (head x) x) (if x (tail x) (quote (z))))", "()", "(() z)", 7),
    ("(same x x)", "a", "yes", 3),
    ("(same x x)", "(a (b c) ())", "yes", 3),
    ("(same x (quote a))", "a", "yes", 3),
    ("(same x (quote a))", "b", "()", 3),
    ("(same x (quote a))", "(a)", "()", 3),
    ("(same x (quote aa))", "a", "()", 3),
    ("(same x (quote ()))", "()", "yes", 3),
    ("(same x (quote ()))", "(())", "()", 3),
    ("(same x (quote ()))", "a", "()", 3),
    ("(same x (quote (a b)))", "(a b)", "yes", 3),
    ("(same x (quote (a b)))", "(b a)", "()", 3),
    ("(same x (quote (a b)))", "(a b b)", "()", 3),
    ("(same x (quote (a b)))", "(a)", "()", 3),
    ("(same x (quote (a (b) c)))", "(a (b) c)", "yes", 3),
    ("(same x (quote (a (b) c)))", "(a b (c))", "()", 3),
    ("(same (tail x) (quote (b)))", "(a b)", "yes", 4),
    ("(same (join (head x) (tail x)) x)", "(a b)", "yes", 7),
    ("(word x)", "a", "yes", 2),
    ("(word x)", "()", "()", 2),
    ("(word x)", "(a)", "()", 2),
    ("(word (word x))", "a", "yes", 3),
    ("(word (word x))", "(a)", "()", 3),
    ("(head x)", "(a b)", "a", 2),
    ("(head x)", "((a b) c)", "(a b)", 2),
    ("(head x)", "(())", "()", 2),
    ("(head x)", "()", "()", 2),
    ("(head x)", "a", "()", 2),
    ("(head (head (head x)))", "(((a)))", "a", 4),
    ("(tail x)", "(a b c)", "(b c)", 2),
    ("(tail x)", "(a)", "()", 2),
    ("(tail x)", "((a) b)", "(b)", 2),
    ("(tail x)", "()", "()", 2),
    ("(tail x)", "a", "()", 2),
    ("(join x x)", "a", "(a)", 3),
    ("(join x x)", "()", "(())", 3),
    ("(join x x)", "(a b)", "((a b) a b)", 3),
    ("(join x (quote b))", "(a)", "((a))", 3),
    ("(join x (quote ()))", "a", "(a)", 3),
    ("(join x (quote (b c)))", "a", "(a b c)", 3),
    ("(join (quote a) (join (quote b) (join (quote c) x)))", "(d)", "(a b c d)", 7),
    ("(join (join (join x x) x) x)", "a", "(((a)))", 7),
)

# A program, its inputs, the value and the steps, counted by hand.
PROGRAMS = (
    ("((main () (quote a)))", (), "a", 1),
    ("((main () (other)) (other () (quote b)))", (), "b", 2),
    ("((main () (join (other) (other))) (other () (quote b)))", (), "(b)", 5),
    ("((main () (two (one) (one))) (one () (quote b)) (two (x y) (join y x)))", (), "(b)", 8),
    ("((main (x) (id x)) (id (y) y))", ("a",), "a", 3),
    ("((main (x) (id (id (id x)))) (id (y) (join y y)))", ("a",), "(((a) a) (a) a)", 13),
    ("((main (x) (two x (two x x))) (two (y z) (join y z)))", ("a",), "(a a)", 11),
    ("((main (x y) (other y x)) (other (x y) (join x (join y (quote ())))))", ("a", "b"), "(b a)", 8),
    ("((main (x y) (other y x)) (other (y x) (join x (join y (quote ())))))", ("a", "b"), "(a b)", 8),
    ("((main (x) (walk x)) (walk (l) (if l (walk (tail l)) (quote end))))", ("(a b c)",), "end", 20),
    ("((walk (l) (if l (walk (tail l)) (quote end))))", ("()",), "end", 3),
    ("((walk (l) (if l (walk (tail l)) (quote end))))", ("a",), "end", 8),
    ("((app (l r) (if l (join (head l) (app (tail l) r)) r)))", ("(a b)", "(c d)"), "(a b c d)", 21),
    ("((main (other) (other other)) (other (main) (if main main (main main))))", ("(a)",), "(a)", 5),
    ("((main (x) (join (if x (f (head x)) (f x)) (if x x x))) (f (y) (if y (quote p) (quote q))))",
     ("(a)",), "(p a)", 12),
    ("((main (x) (if (f x) (f (f x)) (f (tail x)))) (f (y) (if y (quote ()) y)))", ("a",), "()", 12),
    (f"((main ({TWELVE}) (other {TWELVE})) (other ({TWELVE}) l))", tuple(TWELVE.split()), "l", 14),
    (f"((main ({TWELVE}) (other {TWELVE})) (other ({TWELVE}) a))", tuple(TWELVE.split()), "a", 14),
    (f"((main ({TWELVE}) (join g (join a l))))", tuple(TWELVE.split()), "(g a)", 5),
)

GROW = "(grow (n x) (if n (grow (tail n) (join x x)) x))"
SHRINK = "(shrink (n x) (if n (shrink (tail n) (head x)) x))"


def rows():
    """All rows: a program, its inputs, its value and its steps."""
    found = [(read_value(f"((main (x) {body}))"), [read_value(given)], read_value(value), steps)
             for body, given, value, steps in BODIES]
    for text, inputs, value, steps in PROGRAMS:
        found.append((read_value(text), [read_value(given) for given in inputs], read_value(value), steps))
    return found


def nested(depth):
    """A list nested so deep."""
    value = ()
    for _ in range(depth - 1):
        value = (value,)
    return value


class RunTest(unittest.TestCase):
    def check_run(self, run, kind, value, steps):
        self.assertIs(type(run), Run)
        self.assertEqual((run.kind, run.steps), (kind, steps))
        self.assertEqual(run.value, value)

    def run_text(self, text, *inputs, limit=1000000):
        return run_program(read_value(text), inputs, limit)


class ValuesAndStepsTest(RunTest):
    def test_values_and_steps(self):
        for program, inputs, value, steps in rows():
            self.check_run(run_program(program, inputs, 1000), "done", value, steps)

    def test_limits(self):
        for program, inputs, value, steps in rows():
            self.check_run(run_program(program, inputs, steps), "done", value, steps)
            for limit in range(steps):
                self.check_run(run_program(program, inputs, limit), "tired", None, limit)

    def test_inputs_are_a_list_or_a_tuple(self):
        for program, inputs, value, steps in rows():
            self.check_run(run_program(program, tuple(inputs), 1000), "done", value, steps)

    def test_kinds_of_what_is_told(self):
        run = self.run_text("((main (x y) (join x y)))", "a", ("b",))
        self.assertIs(type(run.kind), str)
        self.assertIs(type(run.value), tuple)
        self.assertIs(type(run.steps), int)
        self.assertIs(type(self.run_text("((main () (quote a)))").value), str)
        self.assertIsNone(self.run_text("((main () (main)))", limit=7).value)

    def test_run_keeps_its_attributes(self):
        run = Run("done", ("a",), 7)
        self.assertEqual((run.kind, run.value, run.steps), ("done", ("a",), 7))
        run = Run("tired", None, 0)
        self.assertEqual((run.kind, run.value, run.steps), ("tired", None, 0))

    def test_the_other_part_of_an_if_is_not_evaluated(self):
        spin = "(spin (y) (spin y))"
        self.check_run(self.run_text(f"((main (x) (if x (quote p) (spin x))) {spin})", "a"), "done", "p", 3)
        self.check_run(self.run_text(f"((main (x) (if x (spin x) (quote q))) {spin})", ()), "done", "q", 3)
        for given in ("a", ()):
            self.check_run(self.run_text(f"((main (x) (if (spin x) x x)) {spin})", given, limit=50), "tired", None, 50)

    def test_unused_functions_do_not_matter(self):
        text = "((main (x) (tail x)) (spin (y) (spin y)) (main2 (x) (main x)))"
        self.check_run(self.run_text(text, ("a", "b")), "done", ("b",), 2)

    def test_names_may_be_alike(self):
        text = "((f1 (f0 x) (f0 x f0)) (f0 (f1 f0) (join f1 f0)))"
        self.check_run(self.run_text(text, "a", "b"), "done", ("b",), 6)

    def test_values_that_are_programs(self):
        program = read_value("((main (x) (if (same x (quote ((main (x) x)))) (quote own) (head (head x)))))")
        self.check_run(run_program(program, [read_value("((main (x) x))")], 100), "done", "own", 5)
        self.check_run(run_program(program, [program], 100), "done", "main", 7)

    def test_a_body_nested_deep(self):
        body = "x"
        for k in range(97):
            body = ("(head {})", "(join {} x)", "(if x {} x)", "(id {})", "(same {} x)")[k % 5].format(body)
        program = read_value(f"((main (x) {body}) (id (y) y))")
        reference = ReferenceRun(program, ("a",), 10000)
        self.check_run(run_program(program, ["a"], 10000), "done", reference.value, reference.steps)

    def test_a_body_nested_beyond_what_python_calls(self):
        for depth in (190, 5000):
            body = "x"
            for _ in range(depth):
                body = ("tail", body)
            self.check_run(run_program((("main", ("x",), body),), ["a"], 10000), "done", (), depth + 1)
            body = "x"
            for _ in range(depth):
                body = ("if", "x", body, "x")
            self.check_run(run_program((("main", ("x",), body),), ["a"], 20000), "done", "a", 2 * depth + 1)
            body = "x"
            for _ in range(depth):
                body = ("join", ("if", "x", ("word", body), "x"), ("quote", ()))
            self.check_run(run_program((("main", ("x",), body),), ["a"], 30000), "done", ((),), 5 * depth + 1)


class RandomTest(RunTest):
    def test_random_programs(self):
        for seed in range(600):
            maker = Maker(seed)
            program = maker.program()
            inputs = [maker.value() for _ in program[0][1]]
            for limit in (0, 1, 7, 40, 150):
                told = ReferenceRun(program, inputs, limit)
                self.check_run(run_program(program, inputs, limit), told.kind, told.value, told.steps)


class LimitTest(RunTest):
    def test_a_program_that_calls_itself_for_ever(self):
        texts = ("((main (x) (main x)))", "((main (x) (head (main x))))", "((main (x) (main (main x))))",
                 "((main (x) (main (join x x))))", "((main (x) (join x (main (join (quote a) x)))))",
                 "((main (x) (other x)) (other (y) (if y (main y) (main y))))")
        for text in texts:
            for limit in (0, 1, 2, 3, 10, 999, 50000):
                self.check_run(self.run_text(text, "a", limit=limit), "tired", None, limit)
        for limit in (0, 1, 2, 30000, 1000000):
            self.check_run(self.run_text("((main () (main)))", limit=limit), "tired", None, limit)

    def test_as_many_open_calls_as_the_limit_allows(self):
        self.check_run(self.run_text("((main () (head (main))))", limit=200000), "tired", None, 200000)
        self.check_run(self.run_text("((main (x) (join x (main x))))", "a", limit=400000), "tired", None, 400000)
        self.check_run(self.run_text("((main () (two (main) (main))) (two (x y) x))", limit=200000), "tired", None, 200000)

    def test_open_calls_that_come_to_an_end(self):
        text = "((main (x) (if x (join (head x) (main (tail x))) (quote ()))))"
        given = ("a", ()) * 50000
        self.check_run(self.run_text(text, given), "done", given, 8 * 100000 + 3)
        self.check_run(self.run_text(text, given, limit=8 * 100000 + 2), "tired", None, 8 * 100000 + 2)

    def test_calls_in_the_parts_of_calls(self):
        text = "((main (x) (if x (two (main (tail x)) (two (head x) (main (tail x)))) x)) (two (y z) (join y z)))"
        # The body takes 3 steps for (); otherwise twice as many as for the tail, and 18 more.
        for length in range(12):
            run = self.run_text(text, ("a",) * length)
            self.assertEqual((run.kind, run.steps), ("done", 21 * 2 ** length - 18))


class GreatTest(RunTest):
    def grown(self, times, main, functions=GROW, start=()):
        return self.run_text(f"((main (n x) {main}) {functions})", ("a",) * times, start)

    def test_doubled_lists(self):
        for times in (18, 70, 300, 5000):
            self.check_run(self.grown(times, "(grow n x)"), "great", None, 8 * times + 6)

    def test_lists_doubled_to_the_bound(self):
        for times in range(13):
            run = self.grown(times, "(grow n x)")
            self.assertEqual((run.kind, run.steps), ("done", 8 * times + 6))
            self.assertEqual(write_value(run.value).count("("), 2 ** times)

    def test_taken_back_from_a_doubled_list(self):
        for times in (70, 300):
            run = self.grown(times, "(shrink n (grow n x))", GROW + SHRINK, ("b", "c"))
            self.check_run(run, "done", ("b", "c"), 3 + 8 * times + 5 + 7 * times + 3)

    def test_a_great_value_within_a_run_does_not_matter(self):
        for times in (70, 300):
            self.check_run(self.grown(times, "(word (grow n x))"), "done", (), 8 * times + 7)
            self.check_run(self.grown(times, "(if (grow n x) (quote p) (quote q))"), "done", "p", 8 * times + 8)
            self.check_run(self.grown(times, "(head (join (quote p) (grow n x)))"), "done", "p", 8 * times + 9)

    def test_same_of_doubled_lists(self):
        for times in (70, 300):
            steps = 1 + 2 * (8 * times + 6)
            self.check_run(self.grown(times, "(same (grow n x) (grow n x))"), "done", "yes", steps)
            self.check_run(self.grown(times, "(same (grow n x) (grow n (quote ())))"), "done", "yes", steps)
            self.check_run(self.grown(times, "(same (grow n x) (grow n (quote a)))"), "done", (), steps)
            self.check_run(self.grown(times, "(same (grow n x) (grow (tail n) x))"), "done", (), steps - 7)
            self.check_run(self.grown(times, "(same (grow n x) (join (quote a) (grow n x)))"), "done", (), steps + 2)

    def test_a_great_run_that_is_tired(self):
        steps = 8 * 70 + 6
        program = read_value(f"((main (n x) (grow n x)) {GROW})")
        self.check_run(run_program(program, [("a",) * 70, ()], steps), "great", None, steps)
        self.check_run(run_program(program, [("a",) * 70, ()], steps - 1), "tired", None, steps - 1)

    def test_the_greatest_number_of_parts(self):
        words = ("a",) * 199998
        self.check_run(self.run_text("((main (x) x))", words + ("b",)), "done", words + ("b",), 1)
        self.check_run(self.run_text("((main (x) (join (quote b) x)))", words), "done", ("b",) + words, 3)
        self.check_run(self.run_text("((main (x) (join (quote b) x)))", words + ("a",)), "great", None, 3)
        self.check_run(self.run_text("((main (x) (tail (join (quote b) x))))", words + ("a",)), "done", words + ("a",), 4)

    def test_parts_that_are_shared_count_each_time(self):
        half = ("a", ()) * 49999 + ("b",)
        double = self.run_text("((main (x) (join x x)))", half)
        self.check_run(double, "done", (half,) + half, 3)
        self.check_run(self.run_text("((main (x) (join x (join (quote b) x))))", half), "great", None, 5)
        self.check_run(self.run_text("((main (x) (join x (tail x))))", half + ("b",)), "great", None, 4)
        self.check_run(self.run_text("((main (x) (join x (tail (tail x)))))", half + ("b",)), "done",
                       (half + ("b",),) + (half + ("b",))[2:], 5)

    def test_the_greatest_depth(self):
        put_in = "((main (x) (join x (quote ()))))"
        self.check_run(self.run_text("((main (x) x))", nested(200)), "done", nested(200), 1)
        self.check_run(self.run_text(put_in, nested(199)), "done", nested(200), 3)
        self.check_run(self.run_text(put_in, nested(200)), "great", None, 3)
        self.check_run(self.run_text("((main (x) (head (join x (quote ())))))", nested(200)), "done", nested(200), 4)
        behind = "((main (x) (join (quote a) (join x (quote (b))))))"
        self.check_run(self.run_text(behind, nested(199)), "done", ("a", nested(199), "b"), 5)
        self.check_run(self.run_text(behind, nested(200)), "great", None, 5)
        ahead = "((main (x) (join (quote a) x)))"
        self.check_run(self.run_text(ahead, nested(200)), "done", ("a",) + nested(200), 3)

    def test_a_depth_that_grows_for_long(self):
        text = "((main (n x) (if n (main (tail n) (join x (quote ()))) x)))"
        self.check_run(self.run_text(text, ("a",) * 199, ()), "done", nested(200), 8 * 199 + 3)
        self.check_run(self.run_text(text, ("a",) * 200, ()), "great", None, 8 * 200 + 3)
        self.check_run(self.run_text(text, ("a",) * 200, "a"), "done", read_value("(" * 200 + "a" + ")" * 200), 1603)
        self.check_run(self.run_text(text, ("a",) * 50000, ()), "great", None, 400003)

    def test_large_inputs_and_quoted_values(self):
        large = tuple((nested(3), "a") for _ in range(33000))
        program = (("main", ("x", "y"), ("same", "x", ("quote", large))),)
        self.check_run(run_program(program, [large, large], 10), "done", "yes", 3)
        self.check_run(run_program(program, [large[1:], large], 10), "done", (), 3)


class WrongTest(RunTest):
    def check_bad_inputs(self, text, count):
        program = read_value(text)
        for inputs in (["a"] * count, ("a",) * count):
            with self.assertRaises(BadInputs) as caught:
                run_program(program, inputs, 100)
            self.assertIsInstance(caught.exception, GlassError)
            self.assertIsInstance(caught.exception, ValueError)
            self.assertNotIsInstance(caught.exception, (BadProgram, BadText))

    def test_wrong_numbers_of_inputs(self):
        for right in (0, 1, 2, 12):
            text = f"((main ({' '.join(TWELVE.split()[:right])}) (quote a)) (other (x y z) x))"
            for count in range(15):
                if count == right:
                    self.assertEqual(run_program(read_value(text), ["a"] * count, 5).value, "a")
                else:
                    self.check_bad_inputs(text, count)

    def test_bad_inputs_whatever_the_limit(self):
        for limit in (0, 1, 1000000):
            with self.assertRaises(BadInputs):
                run_program(read_value("((main (x) x))"), [], limit)

    def test_bad_programs(self):
        wrong = (("()", 0), ("a", 0), ("((main (x) y))", 0), ("((main (x) x) (other (x) (nobody x)))", 1),
                 ("((main (x) x) (b (x) x) (main (x) x))", 2), ("((f3 (x) x))", 0))
        for text, function in wrong:
            for inputs in ([], ["a"], ["a", "b"]):
                with self.assertRaises(BadProgram) as caught:
                    run_program(read_value(text), inputs, 0)
                self.assertEqual(caught.exception.function, function)
                self.assertNotIsInstance(caught.exception, BadInputs)


class ArgumentsTest(RunTest):
    def test_arguments_are_as_they_were_and_answers_the_same_again(self):
        for program, inputs, value, steps in rows():
            before = write_value(program), [write_value(given) for given in inputs]
            self.check_run(run_program(program, inputs, 1000), "done", value, steps)
            self.check_run(run_program(program, inputs, 1000), "done", value, steps)
            self.assertEqual((write_value(program), [write_value(given) for given in inputs]), before)
            self.assertIs(type(inputs), list)

    def test_values_can_be_used_again(self):
        program = read_value("((main (x) (join x x)))")
        value = ()
        for _ in range(10):
            value = run_program(program, [value], 10).value
        self.assertEqual(write_value(value).count("("), 1024)
        self.assertTrue(same_values(value[0], value[1:]))


if __name__ == "__main__":
    unittest.main()
