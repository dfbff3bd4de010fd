"""Promises [2], [26] and [27], and the interface, ownglass/translate.py."""

import unittest

from ownglass.machine import run_program
from ownglass.programs import check_program, inputs_of, names_of
from ownglass.stacks import check_machine, run_machine
from ownglass.texts import read_value, write_value
from ownglass.translate import from_machine, to_machine
from reference import (GlassTest, Maker, ReferenceMachine, ReferenceRun, lists, reference_from_machine,
                       reference_to_machine, some_inputs, takes, words)

# A program, and its machine program, by hand.
TO_MACHINE = (
    # A word and a quote.
    ("((main (x) x))", "((main (copy ()) (slide (x))))"),
    ("((main () (quote a)))", "((main (push a) (slide ())))"),
    ("((main () (quote (join x (if a b c)))))", "((main (push (join x (if a b c))) (slide ())))"),
    ("((main (x y z) x))", "((main (copy (y z)) (slide (x y z))))"),
    ("((main (x y z) y))", "((main (copy (z)) (slide (x y z))))"),
    ("((main (x y z) z))", "((main (copy ()) (slide (x y z))))"),
    # Lists of special words; each part is one deeper than the one before.
    ("((main (x) (word x)))", "((main (copy ()) (word) (slide (x))))"),
    ("((main (x) (head (tail x))))", "((main (copy ()) (tail) (head) (slide (x))))"),
    ("((main (x y) (same x y)))", "((main (copy (y)) (copy (a)) (same) (slide (x y))))"),
    ("((main (x y) (join y x)))", "((main (copy ()) (copy (y a)) (join) (slide (x y))))"),
    ("((main (x) (join x (join x (join x (quote ()))))))",
     "((main (copy ()) (copy (a)) (copy (a a)) (push ()) (join) (join) (join) (slide (x))))"),
    ("((main (x) (join (join x x) (word x))))", "((main (copy ()) (copy (a)) (join) (copy (a)) (word) (join) (slide (x))))"),
    # Calls, within calls, of functions that stand earlier and later.
    ("((main (x y) (other y x)) (other (u v) (main v u)))",
     "((main (copy ()) (copy (y a)) (call other) (slide (x y))) (other (copy ()) (copy (v a)) (call main) (slide (u v))))"),
    ("((main () (main)))", "((main (call main) (slide ())))"),
    ("((main (x) (g x (g x x (h x)) x)) (g (a b c) c) (h (x) x))",
     "((main (copy ()) (copy (a)) (copy (a a)) (copy (a a a)) (call h) (call g) (copy (a a)) (call g) (slide (x)))"
     " (g (copy ()) (slide (a b c))) (h (copy ()) (slide (x))))"),
    # An if: its parts are as deep as it is.
    ("((main (x y) (if x y (quote b))))",
     "((main (copy (y)) (if (p2 main) (p3 main)) (slide (x y))) ((p2 main) (copy ())) ((p3 main) (push b)))"),
    ("((main (x) (join x (if x (join x x) x))))",
     "((main (copy ()) (copy (a)) (if (p2 p2 main) (p3 p2 main)) (join) (slide (x)))"
     " ((p2 p2 main) (copy (a)) (copy (a a)) (join)) ((p3 p2 main) (copy (a))))"),
    # Ifs in each part of an if: first those of the test, then each part and what is in it.
    ("((main (x) (if (if x x x) (if x x x) (if x x x))))",
     "((main (copy ()) (if (p2 p1 main) (p3 p1 main)) (if (p2 main) (p3 main)) (slide (x)))"
     " ((p2 p1 main) (copy ())) ((p3 p1 main) (copy ()))"
     " ((p2 main) (copy ()) (if (p2 p2 main) (p3 p2 main))) ((p2 p2 main) (copy ())) ((p3 p2 main) (copy ()))"
     " ((p3 main) (copy ()) (if (p2 p3 main) (p3 p3 main))) ((p2 p3 main) (copy ())) ((p3 p3 main) (copy ())))"),
    # Ifs in the parts of other expressions, in order.
    ("((f (x) (g (if x x x) (head (if x x x)))) (g (y z) (if y (g z y) z)))",
     "((f (copy ()) (if (p2 p1 f) (p3 p1 f)) (copy (a)) (if (p2 p1 p2 f) (p3 p1 p2 f)) (head) (call g) (slide (x)))"
     " ((p2 p1 f) (copy ())) ((p3 p1 f) (copy ())) ((p2 p1 p2 f) (copy (a))) ((p3 p1 p2 f) (copy (a)))"
     " (g (copy (z)) (if (p2 g) (p3 g)) (slide (y z))) ((p2 g) (copy ()) (copy (z a)) (call g)) ((p3 g) (copy ())))"),
    # Quoted values have no routines; words that look like instructions.
    ("((main (copy) (push (quote (if a b c)) copy)) (push (push slide) (if (quote if) push slide)))",
     "((main (push (if a b c)) (copy (a)) (call push) (slide (copy)))"
     " (push (push if) (if (p2 push) (p3 push)) (slide (push slide))) ((p2 push) (copy (slide))) ((p3 push) (copy ())))"),
    # A name that is a path's word.
    ("((p1 (p2) (if p2 (p1 p2) p2)))",
     "((p1 (copy ()) (if (p2 p1) (p3 p1)) (slide (p2))) ((p2 p1) (copy ()) (call p1)) ((p3 p1) (copy ())))"),
)

# A machine program, the number of inputs, and its program, by hand.
FROM_MACHINE = (
    ("((main))", 0, "((f0 () (head (f1 (quote ())))) (f1 (s) s))"),
    ("((main))", 1, "((f0 (x1) (head (f1 (join x1 (quote ()))))) (f1 (s) s))"),
    ("((main))", 3, "((f0 (x1 x2 x3) (head (f1 (join x3 (join x2 (join x1 (quote ()))))))) (f1 (s) s))"),
    ("((main (push a)))", 0, "((f0 () (head (f1 (quote ())))) (f1 (s) (join (quote a) s)))"),
    ("((main (push a) (push (b ()))))", 0, "((f0 () (head (f1 (quote ())))) (f1 (s) (join (quote (b ())) (join (quote a) s))))"),
    ("((main (call b)) (b (call main)))", 0, "((f0 () (head (f1 (quote ())))) (f1 (s) (f2 s)) (f2 (s) (f1 s)))"),
    ("((main (copy ())))", 1, "((f0 (x1) (head (f1 (join x1 (quote ()))))) (f1 (s) (f2 s)) (f2 (s) (join (head s) s)))"),
    ("((main (copy (a b c))))", 0,
     "((f0 () (head (f1 (quote ())))) (f1 (s) (f2 s)) (f2 (s) (join (head (tail (tail (tail s)))) s)))"),
    ("((main (slide ())))", 0, "((f0 () (head (f1 (quote ())))) (f1 (s) (f2 s)) (f2 (s) (join (head s) (tail s))))"),
    ("((main (slide (a b))))", 0,
     "((f0 () (head (f1 (quote ())))) (f1 (s) (f2 s)) (f2 (s) (join (head s) (tail (tail (tail s))))))"),
    ("((main (same) (join) (word) (head) (tail)))", 0,
     "((f0 () (head (f1 (quote ())))) (f1 (s) (f6 (f5 (f4 (f3 (f2 s))))))"
     " (f2 (s) (join (same (head (tail s)) (head s)) (tail (tail s))))"
     " (f3 (s) (join (join (head (tail s)) (head s)) (tail (tail s))))"
     " (f4 (s) (join (word (head s)) (tail s))) (f5 (s) (join (head (head s)) (tail s)))"
     " (f6 (s) (join (tail (head s)) (tail s))))"),
    ("((main (if b main)) (b))", 0,
     "((f0 () (head (f1 (quote ())))) (f1 (s) (f3 s)) (f2 (s) s) (f3 (s) (if (head s) (f2 (tail s)) (f1 (tail s)))))"),
    # One function for all instructions that are alike: other items of a list, and other places.
    ("((main (copy (a)) (copy (b)) (copy (b b)) (if b c) (if c b)) (b (copy (())) (slide (a)) (if b c)) (c (head) (slide (c))))", 0,
     "((f0 () (head (f1 (quote ())))) (f1 (s) (f7 (f6 (f5 (f4 (f4 s)))))) (f2 (s) (f6 (f8 (f4 s)))) (f3 (s) (f8 (f9 s)))"
     " (f4 (s) (join (head (tail s)) s)) (f5 (s) (join (head (tail (tail s))) s))"
     " (f6 (s) (if (head s) (f2 (tail s)) (f3 (tail s)))) (f7 (s) (if (head s) (f3 (tail s)) (f2 (tail s))))"
     " (f8 (s) (join (head s) (tail (tail s)))) (f9 (s) (join (head (head s)) (tail s))))"),
    # Names that are lists.
    ("((() (call (()))) ((()) (if () ())))", 1,
     "((f0 (x1) (head (f1 (join x1 (quote ()))))) (f1 (s) (f2 s)) (f2 (s) (f3 s))"
     " (f3 (s) (if (head s) (f1 (tail s)) (f1 (tail s)))))"),
)


class ToMachineTest(GlassTest):
    def test_texts_by_hand(self):
        for text, right in TO_MACHINE:
            made = to_machine(read_value(text))
            self.check_text(made, right)
            self.assertIsNone(check_machine(made))

    def test_texts_of_all_numbers_of_inputs(self):
        for count in range(13):
            parameters = words(count).split()
            for at, word in enumerate(parameters):
                behind = " ".join(parameters[at + 1:])
                self.check_text(to_machine(takes(count, word)), f"((main (copy ({behind})) (slide ({words(count)}))))")
            made = to_machine(lists(count))
            self.assertEqual(made, reference_to_machine(lists(count)))

    def test_calls_of_twelve_parts(self):
        parts = " ".join(["(if x x x)"] * 12)
        program = read_value(f"((main (x) (g {parts})) (g ({words(12)}) x12))")
        made = to_machine(program)
        self.assertEqual(made, reference_to_machine(program))
        self.assertEqual([routine[0] for routine in made[1:25]],
                         [(word, f"p{at}", "main") for at in range(1, 13) for word in ("p2", "p3")])
        self.assertEqual(made[23][1], ("copy", ("a",) * 11))
        self.assertEqual(run_machine(made, ["b"], 1000).value, "b")

    def check_like(self, program, inputs, limit):
        """The machine program does what the program does, with one step more for each call."""
        made = to_machine(program)
        self.assertEqual(made, reference_to_machine(program))
        self.assertIsNone(check_machine(made))
        right = ReferenceRun(program, inputs, limit)
        if right.kind == "tired":
            self.assertEqual(run_machine(made, inputs, limit).kind, "tired")
            return False
        steps = right.steps + len(right.calls)
        run = run_machine(made, inputs, steps)
        self.assertEqual((run.kind, run.value, run.steps), (right.kind, right.value, steps))
        self.assertEqual(run_machine(made, inputs, steps - 1).kind, "tired")
        return True

    def test_random_programs(self):
        done = 0
        for seed in range(600):
            maker = Maker(seed)
            program = maker.program()
            done += self.check_like(program, [maker.value() for _ in program[0][1]], 200)
        self.assertGreater(done, 200)

    def test_runs(self):
        walk = read_value("((walk (l m) (if l (join (head l) (walk (tail l) m)) (other m))) (other (x) (if x (quote (end)) x)))")
        for count in range(8):
            self.check_like(walk, [("a",) * count, "m"], 1000)
            self.check_like(walk, [("a",) * count, ()], 1000)
        doubles = read_value("((main (n v) (if n (main (tail n) (join v v)) v)))")
        for count in (3, 30, 60):
            made = to_machine(doubles)
            right = run_program(doubles, [("a",) * count, "b"], 100000)
            run = run_machine(made, [("a",) * count, "b"], 100000)
            self.assertEqual((run.kind, run.value, run.steps), (right.kind, right.value, right.steps + count + 1))
        self.assertEqual(right.kind, "great")

    def test_runs_that_never_end(self):
        for text in ("((main (x) (main x)))", "((main (x) (main (join x x))))", "((main (x) (head (main x))))"):
            for limit in (0, 1, 10, 1000, 50000):
                run = run_machine(to_machine(read_value(text)), ["a"], limit)
                self.assertEqual((run.kind, run.value, run.steps), ("tired", None, limit))

    def test_deep_programs(self):
        body, test = "x", "x"
        for _ in range(96):
            body = ("join", "x", body)
            test = ("if", test, test, "x") if isinstance(test, str) else ("if", "x", test, ("quote", ()))
        for program in ((("main", ("x",), body),), (("main", ("x",), test),)):
            made = to_machine(program)
            self.assertEqual(made, reference_to_machine(program))
            run = run_machine(made, [("a",)], 100000)
            self.assertEqual(run.value, run_program(program, [("a",)], 100000).value)
        deep = "x"
        for _ in range(3000):
            deep = ("head", deep)
        made = to_machine((("main", ("x",), deep),))
        self.assertEqual(len(made[0]), 3003)

    def test_bad_programs(self):
        self.check_bad_program(0, lambda: to_machine(()))
        self.check_bad_program(0, lambda: to_machine("a"))
        self.check_bad_program(0, lambda: to_machine(read_value("((main (x) y))")))
        self.check_bad_program(1, lambda: to_machine(read_value("((main (x) x) (main (x) x))")))

    def test_arguments_are_as_they_were_and_answers_the_same_again(self):
        for text, right in TO_MACHINE:
            program = read_value(text)
            self.assertEqual(to_machine(program), to_machine(program))
            self.check_text(program, text)


class FromMachineTest(GlassTest):
    def test_texts_by_hand(self):
        for text, count, right in FROM_MACHINE:
            made = from_machine(read_value(text), count)
            self.check_text(made, right)
            self.assertIsNone(check_program(made))
            self.assertEqual(inputs_of(made), count)

    def test_texts_of_all_numbers_of_inputs(self):
        machine = read_value("((main (copy (a)) (join)))")
        for count in range(9):
            made = from_machine(machine, count)
            self.check_text(made, reference_from_machine(machine, count))
            self.assertEqual(inputs_of(made), count)
            for inputs in (some_inputs(count), some_inputs(count)[::-1]):
                self.assertEqual(run_program(made, inputs, 1000).value, run_machine(machine, inputs, 1000).value)

    def test_more_than_ten_functions(self):
        routines = " ".join(f"(r{at} (call r{(at * 7 + 3) % 15}) (copy ({'a ' * at})) (slide ({'b ' * (at % 4)})))" for at in range(15))
        machine = read_value(f"({routines})")
        made = from_machine(machine, 2)
        self.check_text(made, reference_from_machine(machine, 2))
        # One for the inputs, and functions for 15 copies and 4 slides.
        self.assertEqual(names_of(made), [f"f{at}" for at in range(1 + 15 + 15 + 4)])
        self.assertIsNone(check_program(made))

    def test_random_machine_programs(self):
        done = 0
        for seed in range(800):
            maker = Maker(seed)
            machine = maker.machine(5)
            count = seed % 9
            inputs = [maker.value() for _ in range(count)]
            made = from_machine(machine, count)
            self.check_text(made, reference_from_machine(machine, count))
            self.assertIsNone(check_program(made))
            right = ReferenceMachine(machine, inputs, 60)
            if right.kind == "tired":
                self.assertEqual(run_program(made, inputs, 60).kind, "tired")
            else:
                run = run_program(made, inputs, 100000)
                self.assertEqual((run.kind, run.value), (right.kind, right.value))
                done += 1
        self.assertGreater(done, 300)

    def test_a_stack_that_runs_empty(self):
        for text in ("((main (join) (join) (same) (word)))", "((main (slide (a a a)) (head) (tail) (join)))",
                     "((main (copy (a a)) (slide (a)) (copy (a a a)) (join)))", "((main (if b main) (join)) (b (push a)))",
                     "((main (if c b) (join)) (b (push a)) (c (push c)))", "((main (same) (join)))", "((main (tail) (same)))"):
            machine = read_value(text)
            for count in range(4):
                inputs = some_inputs(count)
                right = run_machine(machine, inputs, 200)
                run = run_program(from_machine(machine, count), inputs, 2000)
                self.assertEqual((run.kind, run.value), (right.kind, right.value))

    def test_great_values_and_runs_that_never_end(self):
        doubling = read_value("((main " + "(copy ()) (join) " * 20 + "))")
        run = run_program(from_machine(doubling, 1), ["a"], 10000)
        self.assertEqual((run.kind, run.value), ("great", None))
        for text in ("((main (call main)))", "((main (push a) (call main)))", "((main (copy ()) (if main main)))"):
            for limit in (0, 10, 1000, 20000):
                self.assertEqual(run_program(from_machine(read_value(text), 1), ["a"], limit).kind, "tired")

    def test_there_and_back(self):
        for seed in range(200):
            maker = Maker(seed)
            program = maker.program()
            count = len(program[0][1])
            inputs = [maker.value() for _ in range(count)]
            right = run_program(program, inputs, 100)
            if right.kind == "done":
                run = run_program(from_machine(to_machine(program), count), inputs, 100000)
                self.assertEqual((run.kind, run.value), ("done", right.value))

    def test_sixty_instructions(self):
        routine = ("main", *[("copy", ("a",) * at) for at in range(60)])
        made = from_machine((routine,), 8)
        self.check_text(made, reference_from_machine((routine,), 8))
        inputs = some_inputs(8)
        self.assertEqual(run_program(made, inputs, 100000).value, run_machine((routine,), inputs, 100).value)

    def test_wrong_numbers(self):
        machine = read_value("((main))")
        for count in (-1, 9, 10, 12, -100, 1000000):
            self.check_bad_inputs(lambda: from_machine(machine, count))

    def test_bad_programs(self):
        for count in (-1, 0, 8, 9, 100):
            self.check_bad_program(0, lambda: from_machine((), count))
            self.check_bad_program(0, lambda: from_machine("a", count))
            self.check_bad_program(0, lambda: from_machine(read_value("((main (call other)))"), count))
            self.check_bad_program(1, lambda: from_machine(read_value("((main) (main))"), count))
            # A program of the first language is none.
            self.check_bad_program(0, lambda: from_machine(read_value("((main (x) x))"), count))

    def test_arguments_are_as_they_were_and_answers_the_same_again(self):
        for text, count, right in FROM_MACHINE:
            machine = read_value(text)
            self.assertEqual(from_machine(machine, count), from_machine(machine, count))
            self.check_text(machine, text)


if __name__ == "__main__":
    unittest.main()
