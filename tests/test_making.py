"""Promises [2], [9], [10] and [11], and the interface, ownglass/making.py."""

import unittest

from ownglass.machine import run_program
from ownglass.making import chosen, composed, fill, renamed
from ownglass.programs import check_program, inputs_of, names_of
from ownglass.texts import read_value, write_value
from reference import GlassTest, Maker, lists, some_inputs, takes, with_blank, words

WALK = "((walk (l) (if l (walk (tail l)) (quote end))))"
TWO = "((main (x y) (swap y x)) (swap (a b) (join a (join b (quote ())))))"
PLAIN = "((main (x) x))"
SPIN = "((spin (x) (spin x)))"

# A program, the start, and the text of the renamed one.
RENAMED = (
    (PLAIN, 0, "((f0 (x) x))"),
    (PLAIN, 1, "((f1 (x) x))"),
    (PLAIN, 1000000, "((f1000000 (x) x))"),
    (WALK, 0, "((f0 (l) (if l (f0 (tail l)) (quote end))))"),
    (WALK, 37, "((f37 (l) (if l (f37 (tail l)) (quote end))))"),
    (TWO, 0, "((f0 (x y) (f1 y x)) (f1 (a b) (join a (join b (quote ())))))"),
    (TWO, 9, "((f9 (x y) (f10 y x)) (f10 (a b) (join a (join b (quote ())))))"),
    (TWO, 999999, "((f999999 (x y) (f1000000 y x)) (f1000000 (a b) (join a (join b (quote ())))))"),
    ("((main () (other)) (other () (quote a)))", 0, "((f0 () (f1)) (f1 () (quote a)))"),
    # Later functions call earlier ones, within all kinds of expressions.
    ("((a (x) (b (a x))) (b (x) (if (a x) (word (b x)) (same (c x) (join (a x) (head (tail (b x)))))))"
     " (c (x) (if x (c x) (a x))))", 4,
     "((f4 (x) (f5 (f4 x))) (f5 (x) (if (f4 x) (word (f5 x)) (same (f6 x) (join (f4 x) (head (tail (f5 x)))))))"
     " (f6 (x) (if x (f6 x) (f4 x))))"),
    # Parameters that are called like functions.
    ("((main (main other) (other main other)) (other (main x) (if main (main main x) x)))", 0,
     "((f0 (main other) (f1 main other)) (f1 (main x) (if main (f0 main x) x)))"),
    ("((main (f0 f1) (other f1 f0)) (other (f1 f0) (main f0 f1)))", 0,
     "((f0 (f0 f1) (f1 f1 f0)) (f1 (f1 f0) (f0 f0 f1)))"),
    # Quoted values that look like calls, functions and programs.
    ("((main (x) (other (quote main))) (other (x) (quote (main (other x)))))", 2,
     "((f2 (x) (f3 (quote main))) (f3 (x) (quote (main (other x)))))"),
    ("((main (x) (if (quote (main x)) (quote ((main (x) (main x)))) (quote quote))))", 0,
     "((f0 (x) (if (quote (main x)) (quote ((main (x) (main x)))) (quote quote))))"),
    ("((main (x) (main (quote (quote (main))))))", 5, "((f5 (x) (f5 (quote (quote (main))))))"),
    # Functions that are called f0, f1 and so on already, in another order.
    ("((f1 (x) (f0 x)) (f0 (x) (f1 x)))", 0, "((f0 (x) (f1 x)) (f1 (x) (f0 x)))"),
    ("((f2 (x) (f0 (f1 x))) (f0 (x) (f2 x)) (f1 (x) (quote f2)))", 0,
     "((f0 (x) (f1 (f2 x))) (f1 (x) (f0 x)) (f2 (x) (quote f2)))"),
    ("((f2 (x) (f0 (f1 x))) (f0 (x) (f2 x)) (f1 (x) (quote f2)))", 1,
     "((f1 (x) (f2 (f3 x))) (f2 (x) (f1 x)) (f3 (x) (quote f2)))"),
    ("((f0 (x) (f1 x)) (f1 (x) (f0 x)))", 1, "((f1 (x) (f2 x)) (f2 (x) (f1 x)))"),
)


class MakingTest(GlassTest):
    def check_run(self, program, inputs, value, steps):
        run = run_program(program, inputs, 100000)
        self.assertEqual((run.kind, run.value, run.steps), ("done", value, steps))


class RenamedTest(MakingTest):
    def test_texts(self):
        for text, start, right in RENAMED:
            self.check_text(renamed(read_value(text), start), right)

    def test_names(self):
        rows = " ".join(f"(g{k} (x) (g{(7 * k + 3) % 40} x))" for k in range(40))
        for start in (0, 1, 95, 999970):
            program = renamed(read_value(f"({rows})"), start)
            self.assertEqual([function[0] for function in program], [f"f{start + k}" for k in range(40)])
            self.assertEqual([function[2][0] for function in program], [f"f{start + (7 * k + 3) % 40}" for k in range(40)])

    def test_renamed_from_0_is_good_and_does_the_same(self):
        for seed in range(100):
            maker = Maker(seed)
            program = maker.program()
            inputs = [maker.value() for _ in program[0][1]]
            other = renamed(program, 0)
            self.assertIsNone(check_program(other))
            self.assertEqual(names_of(other), [f"f{k}" for k in range(len(program))])
            first, second = [run_program(some, inputs, 200) for some in (program, other)]
            self.assertEqual((first.kind, first.value, first.steps), (second.kind, second.value, second.steps))

    def test_renamed_twice(self):
        for text, start, right in RENAMED:
            once = renamed(read_value(text), 0)
            self.check_text(renamed(once, 0), write_value(once))
            self.check_text(renamed(once, start), right)

    def test_renamed_from_elsewhere_need_not_be_good(self):
        once = renamed(read_value(PLAIN), 1)
        self.check_bad_program(0, lambda: check_program(once))
        self.check_bad_program(0, lambda: renamed(once, 0))

    def test_any_number_of_inputs(self):
        for count in range(13):
            program = read_value(f"((main ({words(count)}) (main{with_blank(count)})))")
            self.check_text(renamed(program, 3), f"((f3 ({words(count)}) (f3{with_blank(count)})))")

    def test_deep_bodies(self):
        for depth in (96, 5000):
            body, right = "x", "x"
            for k in range(depth):
                body = (("main", body), ("join", "x", body), ("if", body, "x", "x"))[k % 3]
                right = (("f8", right), ("join", "x", right), ("if", right, "x", "x"))[k % 3]
            made = renamed((("main", ("x",), body),), 8)
            # Compared by their texts: Python compares lists by calls of calls.
            self.assertEqual(write_value(made), write_value((("f8", ("x",), right),)))

    def test_bad_programs(self):
        self.check_bad_program(0, lambda: renamed((), 0))
        self.check_bad_program(0, lambda: renamed("a", 0))
        self.check_bad_program(1, lambda: renamed(read_value("((main (x) x) (other (x) (nobody x)))"), 1000000))


class FillTest(MakingTest):
    def test_texts(self):
        self.check_text(fill(read_value(PLAIN), "a"), "((f1 () (main (quote a))) (main (x) x))")
        self.check_text(fill(read_value(PLAIN), ()), "((f1 () (main (quote ()))) (main (x) x))")
        self.check_text(fill(read_value(TWO), ("main", ("x",))), "((f2 (x1) (main (quote (main (x))) x1)) " + TWO[1:])
        self.check_text(fill(read_value("((f1 (x y) (f0 y)) (f0 (x1) x1))"), "f0"),
                        "((f2 (x1) (f1 (quote f0) x1)) (f1 (x y) (f0 y)) (f0 (x1) x1))")
        for count in range(1, 10):
            program = lists(count)
            front = f"(f1 ({words(count - 1)}) (main (quote (v)){with_blank(count - 1)}))"
            self.check_text(fill(program, ("v",)), "(" + front + " " + write_value(program)[1:])

    def test_goodness_and_inputs(self):
        for count in range(1, 10):
            made = fill(lists(count), "v")
            self.assertIsNone(check_program(made))
            self.assertEqual(inputs_of(made), count - 1)

    def test_runs(self):
        for count in range(1, 10):
            inputs = some_inputs(count)
            value = tuple(inputs)
            steps = 2 * count + 1
            self.check_run(lists(count), inputs, value, steps)
            self.check_run(fill(lists(count), inputs[0]), inputs[1:], value, steps + (count - 1) + 2)

    def test_filled_again_and_again(self):
        program = lists(9)
        inputs = some_inputs(9)
        steps = 19
        for count in range(8, -1, -1):
            program = fill(program, inputs[8 - count])
            steps += count + 2
            self.assertEqual(names_of(program)[0], f"f{9 - count}")
            self.check_run(program, inputs[9 - count:], tuple(inputs), steps)
        self.check_bad_inputs(lambda: fill(program, "a"))

    def test_a_program_filled_with_itself(self):
        program = read_value("((main (x y) (join x y)))")
        made = fill(program, program)
        self.check_run(made, [("a",)], (program, "a"), 6)
        self.check_run(fill(fill(program, made), made), [], (made,) + made, 8)

    def test_wrong_numbers_of_inputs(self):
        for count in (0, 10, 11, 12):
            self.check_bad_inputs(lambda: fill(takes(count), "a"))

    def test_bad_programs(self):
        self.check_bad_program(0, lambda: fill((), "a"))
        self.check_bad_program(0, lambda: fill(read_value("((main () x))"), "a"))
        self.check_bad_program(1, lambda: fill(read_value("((main (x) x) (main (x) x))"), "a"))
        self.check_bad_program(1, lambda: fill(read_value("((main () (quote a)) (other (x) y))"), "a"))


class ChosenTest(MakingTest):
    def test_text(self):
        made = chosen(read_value(WALK), read_value("((main (x) (other (quote main))) (other (y) y))"), read_value(SPIN))
        self.check_text(made, "((f4 (x1) (if (f0 x1) (f1 x1) (f3 x1)))"
                              " (f0 (l) (if l (f0 (tail l)) (quote end)))"
                              " (f1 (x) (f2 (quote main))) (f2 (y) y)"
                              " (f3 (x) (f3 x)))")

    def test_texts_of_all_numbers_of_inputs(self):
        for count in range(9):
            parts = [takes(count, f"(quote {word})") for word in ("p", "q", "r")]
            calls = [f"(f{k}{with_blank(count)})" for k in range(3)]
            rows = [f"(f{k} ({words(count)}) (quote {word}))" for k, word in enumerate("pqr")]
            self.check_text(chosen(*parts), f"((f3 ({words(count)}) (if {' '.join(calls)})) {' '.join(rows)})")

    def test_runs(self):
        for count in range(9):
            inputs = some_inputs(count)
            value = tuple(inputs)
            yes, no = lists(count), takes(count, "(word (quote no))")
            for test, steps in (("(quote a)", 1), ("(quote (()))", 1), ("(word (quote a))", 2)):
                made = chosen(takes(count, test), yes, no)
                self.assertIsNone(check_program(made))
                self.assertEqual(inputs_of(made), count)
                self.check_run(made, inputs, value, steps + 2 * count + 1 + 2 * count + 3)
            for test, steps in (("(quote ())", 1), ("(head (quote a))", 2)):
                made = chosen(takes(count, test), yes, no)
                self.check_run(made, inputs, "yes", steps + 2 + 2 * count + 3)

    def test_the_other_program_does_not_run(self):
        spin, plain = read_value(SPIN), read_value(PLAIN)
        self.check_run(chosen(plain, plain, spin), ["a"], "a", 1 + 1 + 5)
        self.check_run(chosen(plain, spin, plain), [()], (), 1 + 1 + 5)
        for parts in ((spin, plain, plain), (plain, spin, plain)):
            self.assertEqual(run_program(chosen(*parts), ["a"], 1000).kind, "tired")

    def test_the_same_program_thrice(self):
        two = read_value(TWO)
        made = chosen(two, two, two)
        self.assertEqual(names_of(made), ["f6", "f0", "f1", "f2", "f3", "f4", "f5"])
        self.check_run(made, ["a", "b"], ("b", "a"), 8 + 8 + 7)

    def test_made_out_of_what_was_made(self):
        plain, walk = read_value(PLAIN), read_value(WALK)
        inner = chosen(plain, walk, plain)
        made = chosen(inner, inner, fill(read_value(TWO), "a"))
        self.assertEqual(names_of(made), ["f11"] + [f"f{k}" for k in range(11)])
        self.check_run(inner, [("a",)], "end", 1 + 8 + 5)
        self.check_run(made, [("a",)], "end", 14 + 14 + 5)
        self.check_run(inner, [()], (), 1 + 1 + 5)
        self.check_run(made, [()], ((), "a"), 7 + (8 + 1 + 2) + 5)

    def test_wrong_numbers_of_inputs(self):
        for count in range(13):
            same = takes(count)
            for other in range(13):
                if other != count:
                    different = takes(other)
                    self.check_bad_inputs(lambda: chosen(different, same, same))
                    self.check_bad_inputs(lambda: chosen(same, different, same))
                    self.check_bad_inputs(lambda: chosen(same, same, different))
            if count > 8:
                self.check_bad_inputs(lambda: chosen(same, same, same))

    def test_bad_programs(self):
        good, more = takes(1), takes(2)
        first, second = read_value("((main (x) y))"), read_value("((main (x) x) (other () x))")
        self.check_bad_program(0, lambda: chosen(first, second, good))
        self.check_bad_program(1, lambda: chosen(second, first, good))
        self.check_bad_program(1, lambda: chosen(good, second, first))
        self.check_bad_program(0, lambda: chosen(good, first, second))
        self.check_bad_program(1, lambda: chosen(good, more, second))
        self.check_bad_program(0, lambda: chosen(more, good, first))
        self.check_bad_program(0, lambda: chosen(takes(9), takes(12), ()))


class ComposedTest(MakingTest):
    def test_text(self):
        made = composed(read_value(WALK), read_value(TWO))
        self.check_text(made, "((f3 (x1 x2) (f2 (f0 x1 x2)))"
                              " (f0 (x y) (f1 y x)) (f1 (a b) (join a (join b (quote ()))))"
                              " (f2 (l) (if l (f2 (tail l)) (quote end))))")

    def test_texts_of_all_numbers_of_inputs(self):
        for count in range(9):
            made = composed(read_value("((main (y) (quote q)))"), takes(count, "(quote p)"))
            self.check_text(made, f"((f2 ({words(count)}) (f1 (f0{with_blank(count)})))"
                                  f" (f0 ({words(count)}) (quote p)) (f1 (y) (quote q)))")

    def test_runs(self):
        for count in range(9):
            inputs = some_inputs(count)
            made = composed(read_value("((main (y) (join y y)))"), lists(count))
            self.assertIsNone(check_program(made))
            self.assertEqual(inputs_of(made), count)
            value = (tuple(inputs),) + tuple(inputs)
            self.check_run(made, inputs, value, 3 + 2 * count + 1 + count + 2)

    def test_the_same_program_twice(self):
        program = read_value("((main (y) (other y)) (other (y) (join y y)))")
        made = composed(program, program)
        self.assertEqual(names_of(made), ["f4", "f0", "f1", "f2", "f3"])
        self.check_run(made, ["a"], (("a",), "a"), 5 + 5 + 3)

    def test_made_out_of_what_was_made(self):
        double = read_value("((main (y) (join y y)))")
        made = double
        steps = 3
        value = ("a",)
        for _ in range(6):
            made = composed(double, made)
            steps += 3 + 3
            value = (value,) + value
            self.check_run(made, ["a"], value, steps)
            self.assertEqual(names_of(made)[0], f"f{len(made) - 1}")
        self.check_run(composed(made, fill(read_value(TWO), "b")), ["a"], run_program(made, [("a", "b")], 1000).value,
                       steps + 8 + 3 + 3)

    def test_a_part_that_never_ends(self):
        spin, plain = read_value(SPIN), read_value(PLAIN)
        for parts in ((spin, plain), (plain, spin)):
            self.assertEqual(run_program(composed(*parts), ["a"], 1000).kind, "tired")

    def test_wrong_numbers_of_inputs(self):
        for outer in range(13):
            for inner in range(13):
                if outer != 1 or inner > 8:
                    self.check_bad_inputs(lambda: composed(takes(outer), takes(inner)))

    def test_bad_programs(self):
        good, more = takes(1), takes(2)
        first, second = read_value("((main (x) y))"), read_value("((main (x) x) (other () x))")
        self.check_bad_program(0, lambda: composed(first, second))
        self.check_bad_program(1, lambda: composed(second, first))
        self.check_bad_program(1, lambda: composed(good, second))
        self.check_bad_program(1, lambda: composed(more, second))
        self.check_bad_program(0, lambda: composed(first, takes(9)))


class RandomTest(MakingTest):
    def test_random_programs(self):
        for seed in range(150):
            maker = Maker(seed)
            count = seed % 4
            test, yes, no = [maker.program(count) for _ in range(3)]
            outer, longer = maker.program(1), maker.program(count + 1)
            inputs = [maker.value() for _ in range(count)]
            first = run_program(test, inputs, 300)
            if first.kind == "done":
                self.check_alike(chosen(test, yes, no), inputs, first.steps + 2 * count + 3, no if first.value == () else yes,
                                 inputs)
                self.check_alike(composed(outer, test), inputs, first.steps + count + 2, outer, [first.value])
            value = maker.value()
            self.check_alike(fill(longer, value), inputs, count + 2, longer, [value] + inputs)

    def check_alike(self, made, inputs, more, program, others):
        """The made program does on the inputs what the program does on the others, in more steps."""
        run, right = run_program(made, inputs, 300 + more), run_program(program, others, 300)
        self.assertEqual((run.kind, run.value, run.steps), (right.kind, right.value, right.steps + more))


class ArgumentsTest(MakingTest):
    def test_arguments_are_as_they_were_and_answers_the_same_again(self):
        walk, two, plain = read_value(WALK), read_value(TWO), read_value(PLAIN)
        value = ("a", ("b",))
        for call in (lambda: renamed(two, 3), lambda: fill(two, value), lambda: chosen(walk, plain, walk),
                     lambda: composed(plain, two)):
            self.assertEqual(write_value(call()), write_value(call()))
            self.assertEqual([write_value(program) for program in (walk, two, plain)], [WALK, TWO, PLAIN])
            self.assertEqual(value, ("a", ("b",)))


if __name__ == "__main__":
    unittest.main()
