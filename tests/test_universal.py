"""Promises [2], [9], [15] and [16], and the interface, ownglass/universal.py."""

import unittest

from ownglass.machine import run_program
from ownglass.making import renamed
from ownglass.own import know_own
from ownglass.programs import check_program, inputs_of, names_of
from ownglass.texts import read_value, write_value
from ownglass.universal import fixed, universal
from reference import GlassTest, Maker, lists, some_inputs, takes, with_blank

# As the document prints it.
PRINTED = """\
((main (p xs) (apply (head p) xs p))
 (apply (f vs p) (ev (third f) (second f) vs p))
 (second (l) (head (tail l)))
 (third (l) (head (tail (tail l))))
 (fourth (l) (head (tail (tail (tail l)))))
 (ev (e ns vs p) (if (word e) (look e ns vs) (evlist (head e) e ns vs p)))
 (look (e ns vs) (if (same e (head ns)) (head vs) (look e (tail ns) (tail vs))))
 (evlist (w e ns vs p) (if (same w (quote quote)) (second e) (if (same w (quote if)) (if (ev (second e) ns vs p) (ev (third e) ns vs p) (ev (fourth e) ns vs p)) (evcall w (evs (tail e) ns vs p) p))))
 (evs (es ns vs p) (if es (join (ev (head es) ns vs p) (evs (tail es) ns vs p)) (quote ())))
 (evcall (w ys p) (if (same w (quote same)) (same (head ys) (second ys)) (if (same w (quote word)) (word (head ys)) (if (same w (quote head)) (head (head ys)) (if (same w (quote tail)) (tail (head ys)) (if (same w (quote join)) (join (head ys) (second ys)) (apply (find w p) ys p)))))))
 (find (w p) (if (same w (head (head p))) (head p) (find w (tail p)))))
"""

# A program, its inputs, and the value.
RUNS = (
    ("((main () (quote a)))", "()", "a"),
    ("((main () (quote (join (quote a) x))))", "()", "(join (quote a) x)"),
    ("((main () (quote (main (if same (word))))))", "()", "(main (if same (word)))"),
    ("((main () (quote quote)))", "()", "quote"),
    ("((main (x) x))", "((a (b)))", "(a (b))"),
    ("((main (x y) y))", "(a b)", "b"),
    ("((main (if1 quote1) if1))", "(a b)", "a"),
    ("((main (x y z w) (join w (join z (join y (join x (quote ())))))))", "(a (b) () d)", "(d () (b) a)"),
    ("((main (x) (if x (quote full) (quote empty))))", "(())", "empty"),
    ("((main (x) (if x (quote full) (quote empty))))", "(a)", "full"),
    ("((main (x) (if x (quote full) (quote empty))))", "((()))", "full"),
    # The other part is not evaluated.
    ("((main (x) (if x x (main x))))", "(a)", "a"),
    ("((main (x) (if x (main x) (quote end))))", "(())", "end"),
    ("((main (x y) (same x y)))", "((a (b)) (a (b)))", "yes"),
    ("((main (x y) (same x y)))", "((a (b)) (a b))", "()"),
    ("((main (x y) (same x y)))", "(() ())", "yes"),
    ("((main (x) (word x)))", "(a)", "yes"),
    ("((main (x) (word x)))", "(())", "()"),
    ("((main (x) (head x)))", "(((a) b))", "(a)"),
    ("((main (x) (head x)))", "(a)", "()"),
    ("((main (x) (head x)))", "(())", "()"),
    ("((main (x) (tail x)))", "(((a) b c))", "(b c)"),
    ("((main (x) (tail x)))", "(a)", "()"),
    ("((main (x) (tail x)))", "(())", "()"),
    ("((main (x y) (join x y)))", "((a) (b c))", "((a) b c)"),
    ("((main (x y) (join x y)))", "(a b)", "(a)"),
    ("((main (x) (walk x)) (walk (l) (if l (join (quote a) (walk (tail l))) (quote (end)))))", "((x y z))", "(a a a end)"),
    # Two functions that call each other; names that the universal program has, too.
    ("((main (p) (even p)) (even (e) (if e (odd (tail e)) (quote yes))) (odd (e) (if e (even (tail e)) (quote ()))))",
     "((a a a a))", "yes"),
    ("((find (w p) (look p w)) (look (w p) (evs (join w p))) (evs (second) (tail second)))", "((a) b)", "(a)"),
    # The same parameter in several functions; a function with the name of a parameter.
    ("((main (x y) (other y x)) (other (x y) (join x y)))", "((a) b)", "(b a)"),
    ("((main (main) (other main (quote a))) (other (other x) (join other x)))", "(b)", "(b)"),
    # More than is needed: twelve parameters.
    ("((main (a b c d e f g h i j k l) (join l (join a (quote ())))))", "(m n o p q r s t u v w x)", "(x m)"),
)


class UniversalTest(GlassTest):
    def test_text(self):
        self.check_text(universal(), " ".join(PRINTED.split()))
        self.assertEqual(universal(), read_value(PRINTED))

    def test_it_is_good(self):
        self.assertIsNone(check_program(universal()))
        self.assertEqual(inputs_of(universal()), 2)
        self.assertEqual(names_of(universal())[:3], ["main", "apply", "second"])

    def test_runs(self):
        for text, inputs, value in RUNS:
            program, values = read_value(text), read_value(inputs)
            self.assertEqual(write_value(run_program(program, list(values), 10000).value), value)
            run = run_program(universal(), [program, values], 100000)
            self.assertEqual((run.kind, write_value(run.value)), ("done", value))

    def test_random_programs(self):
        done = 0
        for seed in range(300):
            maker = Maker(seed)
            program = maker.program()
            inputs = tuple(maker.value() for _ in program[0][1])
            right = run_program(program, inputs, 200)
            if right.kind == "tired":
                self.assertEqual(run_program(universal(), [program, inputs], 2000).kind, "tired")
            else:
                run = run_program(universal(), (program, inputs), 1000000)
                self.assertEqual((run.kind, run.value), (right.kind, right.value))
                done += 1
        self.assertGreater(done, 100)

    def test_great_values(self):
        program = read_value("((main (n v) (if n (main (tail n) (join v v)) v)))")
        for many, kind in ((3, "done"), (20, "great")):
            inputs = (("a",) * many, "b")
            right = run_program(program, inputs, 1000)
            run = run_program(universal(), [program, inputs], 100000)
            self.assertEqual((right.kind, run.kind, run.value), (kind, kind, right.value))

    def test_runs_that_never_end(self):
        for text, inputs in (("((main (x) (main x)))", ("a",)), ("((main () (main)))", ()),
                             ("((main (x) (main (join x x))))", ((),)), ("((main (x) (head (main x))))", ("a",))):
            for limit in (0, 1, 10, 1000, 30000):
                run = run_program(universal(), [read_value(text), inputs], limit)
                self.assertEqual((run.kind, run.value, run.steps), ("tired", None, limit))

    def test_it_runs_itself(self):
        program = read_value("((main (x) (if (word x) (join x (quote (end))) (quote ()))))")
        for value, right in (("a", ("a", "end")), (("a",), ())):
            inner = (universal(), (program, (value,)))
            run = run_program(universal(), inner, 1000000)
            self.assertEqual((run.kind, run.value), ("done", right))
        spin = read_value("((spin (x) (spin x)))")
        self.assertEqual(run_program(universal(), [universal(), (spin, ("a",))], 100000).kind, "tired")

    def test_it_runs_programs_that_know_their_own_text(self):
        made = know_own(lists(3))
        run = run_program(universal(), [made, ("a", "b")], 1000000)
        self.assertEqual((run.kind, run.value), ("done", (made, "a", "b")))

    def test_the_same_again(self):
        self.assertEqual(universal(), universal())


def fixed_text(changer, k):
    """The program of which fixed is know_own, as the document tells it."""
    many = len(universal())
    rows = write_value(renamed(universal(), 0))[1:-1] + " " + write_value(renamed(changer, many))[1:-1]
    inputs = "(quote ())"
    for at in range(k, 0, -1):
        inputs = f"(join x{at} {inputs})"
    return f"((f{many + len(changer)} (s{with_blank(k)}) (f0 (f{many} s) {inputs})) {rows})"


class FixedTest(GlassTest):
    def check_done(self, program, inputs, value):
        run = run_program(program, inputs, 1000000)
        self.assertEqual(run.kind, "done")
        self.assertEqual(write_value(run.value), write_value(value))

    def check_tired(self, program, inputs):
        for limit in (0, 1, 100, 30000):
            run = run_program(program, inputs, limit)
            self.assertEqual((run.kind, run.value, run.steps), ("tired", None, limit))

    def test_text_by_hand(self):
        made = fixed(read_value("((main (p) p))"), 2)
        front = "(f12 (s x1 x2) (f0 (f11 s) (join x1 (join x2 (quote ())))))"
        rows = write_value(renamed(universal(), 0))[1:-1]
        self.check_text(made, write_value(know_own(read_value(f"({front} {rows} (f11 (p) p))"))))

    def test_texts(self):
        changers = [read_value(text) for text in (
            "((main (p) p))", "((main (p) (other p)) (other (x) (quote (main x))))",
            "((f1 (s) (f0 s)) (f0 (x1) (f2 x1)) (f2 (f0) (quote (f0 s))))")]
        for changer in changers:
            for k in range(9):
                made = fixed(changer, k)
                self.check_text(made, write_value(know_own(read_value(fixed_text(changer, k)))))
                self.assertIsNone(check_program(made))
                self.assertEqual(inputs_of(made), k)

    def test_a_changer_that_gives_a_constant_program(self):
        for k in range(9):
            program = lists(k)
            made = fixed((("main", ("p",), ("quote", program)),), k)
            self.check_done(made, some_inputs(k), tuple(some_inputs(k)))

    def test_a_changer_that_gives_random_programs(self):
        for seed in range(60):
            maker = Maker(seed)
            k = seed % 4
            program = maker.program(k)
            inputs = [maker.value() for _ in range(k)]
            made = fixed((("main", ("p",), ("quote", program)),), k)
            right = run_program(program, inputs, 100)
            if right.kind == "tired":
                self.assertEqual(run_program(made, inputs, 1000).kind, "tired")
            else:
                self.check_done(made, inputs, right.value)

    def test_a_changer_that_quotes_the_handed_text(self):
        quoting = read_value(
            "((main (p) (join (join (quote f) (join (quote (x1)) (join (join (quote quote) (join p (quote ())))"
            " (quote ())))) (quote ()))))")
        made = fixed(quoting, 1)
        self.check_done(made, ["a"], made)

    def test_a_changer_that_gives_the_handed_text(self):
        for k in range(9):
            self.check_tired(fixed(read_value("((main (p) p))"), k), some_inputs(k))

    def test_a_changer_that_puts_something_in_front(self):
        # A function more, which does not ask for those of the handed text.
        changer = read_value("((main (p) (join (quote (new (x1) (join x1 x1))) p)))")
        self.check_done(fixed(changer, 1), ["a"], ("a",))
        # One that asks for them never ends.
        made = fixed(changer, 1)
        caller = (("main", ("p",), ("join", ("quote", ("new", ("x1",), (made[0][0], "x1"))), "p")),)
        self.check_tired(fixed(caller, 1), ["a"])

    def test_a_changer_that_never_ends(self):
        for text in ("((main (p) (main p)))", "((main (p) (main (join p p))))"):
            for k in (0, 1, 8):
                self.check_tired(fixed(read_value(text), k), some_inputs(k))

    def test_wrong_numbers(self):
        for k in (-1, 9, 10, 12, 1000000, -1000):
            self.check_bad_inputs(lambda: fixed(takes(1), k))
        for count in (0, 2, 3, 12):
            for k in (-1, 0, 1, 8, 9):
                self.check_bad_inputs(lambda: fixed(takes(count), k))

    def test_bad_programs(self):
        for k in (-1, 0, 8, 9):
            self.check_bad_program(0, lambda: fixed((), k))
            self.check_bad_program(0, lambda: fixed(read_value("((main (x) y))"), k))
            self.check_bad_program(1, lambda: fixed(read_value("((main (x y) x) (main (x) x))"), k))

    def test_arguments_are_as_they_were_and_answers_the_same_again(self):
        text = "((main (p) (join p (other p))) (other (x) x))"
        changer = read_value(text)
        self.assertEqual(fixed(changer, 2), fixed(changer, 2))
        self.check_text(changer, text)


if __name__ == "__main__":
    unittest.main()
