"""Promises [2] and [28], and the interface, ownglass/translator.py."""

import unittest

from ownglass.machine import run_program
from ownglass.programs import check_program, inputs_of, names_of
from ownglass.stacks import check_machine, run_machine
from ownglass.texts import read_value, write_value
from ownglass.translate import to_machine
from ownglass.translator import machine_universal, translator
from ownglass.universal import universal
from reference import GlassTest, Maker, lists, reference_to_machine, takes

# As the document prints them.
TRANSLATOR = """\
((main (p) (if p (app (func (head p)) (main (tail p))) (quote ())))
 (func (f) (fun (head f) (head (tail f)) (head (tail (tail f)))))
 (fun (n ps b) (join (join n (app (ops b ps (quote ()) (one n)) (one (join (quote slide) (one ps))))) (routs b ps (quote ()) (one n))))
 (one (x) (join x (quote ())))
 (app (x y) (if x (join (head x) (app (tail x) y)) y))
 (after (e ps) (if (same e (head ps)) (tail ps) (after e (tail ps))))
 (ops (e ps d w) (if (word e) (one (join (quote copy) (one (app (after e ps) d)))) (oplist (head e) e ps d w)))
 (oplist (k e ps d w) (if (same k (quote quote)) (one (join (quote push) (tail e))) (if (same k (quote if)) (app (ops (head (tail e)) ps d (join (quote p1) w)) (one (join (quote if) (join (join (quote p2) w) (one (join (quote p3) w)))))) (app (args (tail e) ps d w (quote (p1 p2 p3 p4 p5 p6 p7 p8 p9 p10 p11 p12))) (one (lastop k (quote (same word head tail join))))))))
 (lastop (k l) (if l (if (same k (head l)) (one k) (lastop k (tail l))) (join (quote call) (one k))))
 (args (es ps d w is) (if es (app (ops (head es) ps d (join (head is) w)) (args (tail es) ps (join (quote a) d) w (tail is))) (quote ())))
 (routs (e ps d w) (if (word e) (quote ()) (routlist (head e) (tail e) ps d w)))
 (routlist (k es ps d w) (if (same k (quote quote)) (quote ()) (if (same k (quote if)) (app (routs (head es) ps d (join (quote p1) w)) (app (branch (head (tail es)) ps d (join (quote p2) w)) (branch (head (tail (tail es))) ps d (join (quote p3) w)))) (routargs es ps d w (quote (p1 p2 p3 p4 p5 p6 p7 p8 p9 p10 p11 p12))))))
 (branch (e ps d w) (join (join w (ops e ps d w)) (routs e ps d w)))
 (routargs (es ps d w is) (if es (app (routs (head es) ps d (join (head is) w)) (routargs (tail es) ps (join (quote a) d) w (tail is))) (quote ()))))
"""
MACHINE_UNIVERSAL = """\
((main (p xs) (head (run (tail (head p)) (turn xs (quote ())) p)))
 (turn (l s) (if l (turn (tail l) (join (head l) s)) s))
 (run (is s p) (if is (run (tail is) (step (head (head is)) (head (tail (head is))) (head is) s p) p) s))
 (step (k v i s p) (if (same k (quote push)) (join v s) (if (same k (quote copy)) (join (head (skip v s)) s) (if (same k (quote slide)) (join (head s) (skip v (tail s))) (if (same k (quote call)) (run (find v p) s p) (if (same k (quote if)) (run (find (if (head s) v (head (tail (tail i)))) p) (tail s) p) (plain k s)))))))
 (plain (k s) (if (same k (quote word)) (join (word (head s)) (tail s)) (if (same k (quote head)) (join (head (head s)) (tail s)) (if (same k (quote tail)) (join (tail (head s)) (tail s)) (if (same k (quote same)) (join (same (head (tail s)) (head s)) (tail (tail s))) (join (join (head (tail s)) (head s)) (tail (tail s))))))))
 (skip (n s) (if n (skip (tail n) (tail s)) s))
 (find (v p) (if (same v (head (head p))) (tail (head p)) (find v (tail p)))))
"""

# A machine program, its inputs, and the value.
RUNS = (
    ("((main))", "()", "()"), ("((main))", "(a b)", "b"), ("((main (push (a b))))", "(c)", "(a b)"),
    ("((main (copy ())))", "(a b c)", "c"), ("((main (copy (x))))", "(a b c)", "b"),
    ("((main (copy (x y))))", "(a b c)", "a"),
    ("((main (copy (x y z))))", "(a b c)", "()"), ("((main (slide (x)) (copy (y))))", "(a b c)", "a"),
    ("((main (slide ()) (copy (y))))", "(a b c)", "b"), ("((main (slide (x y z)) (copy (y))))", "(a b c)", "()"),
    ("((main (word)))", "(a)", "yes"), ("((main (word)))", "((a))", "()"), ("((main (head)))", "((a b))", "a"),
    ("((main (tail)))", "((a b))", "(b)"), ("((main (same)))", "(a a)", "yes"), ("((main (same)))", "(a b)", "()"),
    ("((main (join)))", "(a (b))", "(a b)"), ("((main (join)))", "((a) b)", "((a))"),
    ("((main (join) (join)))", "(a b (c))", "(a b c)"),
    ("((main (word) (join)))", "(a (b))", "(a)"), ("((main (same) (join)))", "(a b b)", "(a)"),
    ("((main (call b) (join)) (b (push (c)) (head)))", "(a)", "(a)"),
    ("((main (if b c)) (b (push x)) (c (push y)))", "(a)", "x"),
    ("((main (if b c)) (b (push x)) (c (push y)))", "(())", "y"),
    ("((main (if b c) (join)) (b) (c))", "(a (b) d)", "(a b)"),
    ("((main (call (()))) (main2 (push a)) ((()) (push b)))", "()", "b"),
    ("(((p1 a) (call (p2 a))) ((p2 a) (push (p1 a))))", "()", "(p1 a)"),
    ("((push (call call)) (call (if if slide)) (if (push if)) (slide (push slide)))", "(())", "slide"),
    ("((walk (copy ()) (if more end)) (more (tail) (call walk)) (end (push done)))", "((a a a))", "done"),
    ("((main (join) (join) (same)))", "()", "()"), ("((main (if b b)) (b (same)))", "()", "yes"),
)


class TranslatorTest(GlassTest):
    def test_text(self):
        self.check_text(translator(), " ".join(TRANSLATOR.split()))

    def test_it_is_good(self):
        self.assertIsNone(check_program(translator()))
        self.assertEqual(inputs_of(translator()), 1)
        self.assertEqual(names_of(translator()), ["main", "func", "fun", "one", "app", "after", "ops", "oplist", "lastop", "args", "routs",
                                                  "routlist", "branch", "routargs"])

    def check_translates(self, program):
        run = run_program(translator(), [program], 10000000)
        self.assertEqual(run.kind, "done")
        self.check_text(run.value, write_value(to_machine(program)))
        self.assertEqual(run.value, reference_to_machine(program))
        self.assertIsNone(check_machine(run.value))

    def test_programs(self):
        for text in ("((main () (quote a)))", "((main (x) x))", "((main (x y) (if (same x y) (join x (quote (if))) (main y x))))",
                     "((main (x) (g (if x x (quote ())) (head x) (g x x x))) (g (a b c) (if (if a b c) (word b) (tail c))))",
                     "((f1 (f0) (f0 f0)) (f0 (x) (quote (f1 (quote x)))))"):
            self.check_translates(read_value(text))
        for count in range(13):
            self.check_translates(lists(count))
            parts = " ".join(f"x{at}" for at in range(count, 0, -1))
            self.check_translates(takes(count, f"(main {parts})"))

    def test_random_programs(self):
        for seed in range(300):
            self.check_translates(Maker(seed).program(None, 6))

    def test_its_own_text_and_other_printed_programs(self):
        for program in (translator(), machine_universal(), universal()):
            self.check_translates(program)

    def test_its_machine_program_translates(self):
        machine = to_machine(translator())
        for program in (read_value("((main (x) (if x (main (tail x)) (quote end))))"), translator()):
            run = run_machine(machine, [program], 1000000)
            self.assertEqual((run.kind, run.value), ("done", to_machine(program)))

    def test_the_same_again(self):
        self.assertEqual(translator(), translator())


class MachineUniversalTest(GlassTest):
    def test_text(self):
        self.check_text(machine_universal(), " ".join(MACHINE_UNIVERSAL.split()))

    def test_it_is_good(self):
        self.assertIsNone(check_program(machine_universal()))
        self.assertEqual(inputs_of(machine_universal()), 2)
        self.assertEqual(names_of(machine_universal()), ["main", "turn", "run", "step", "plain", "skip", "find"])

    def test_runs(self):
        for text, inputs, value in RUNS:
            program, values = read_value(text), read_value(inputs)
            self.assertEqual(write_value(run_machine(program, values, 1000).value), value)
            run = run_program(machine_universal(), [program, values], 100000)
            self.assertEqual((run.kind, write_value(run.value)), ("done", value))

    def test_random_machine_programs(self):
        done = 0
        for seed in range(500):
            maker = Maker(seed)
            program = maker.machine()
            inputs = tuple(maker.value() for _ in range(seed % 4))
            right = run_machine(program, inputs, 100)
            if right.kind == "tired":
                self.assertEqual(run_program(machine_universal(), [program, inputs], 500).kind, "tired")
            else:
                run = run_program(machine_universal(), [program, inputs], 100000)
                self.assertEqual((run.kind, run.value), (right.kind, right.value))
                done += 1
        self.assertGreater(done, 200)

    def test_great_values_and_runs_that_never_end(self):
        doubling = read_value("((main " + "(copy ()) (join) " * 20 + "))")
        run = run_program(machine_universal(), [doubling, ("a",)], 100000)
        self.assertEqual((run.kind, run.value), ("great", None))
        for text in ("((main (call main)))", "((main (push a) (if main main)))"):
            for limit in (0, 1, 1000, 50000):
                run = run_program(machine_universal(), [read_value(text), ()], limit)
                self.assertEqual((run.kind, run.value, run.steps), ("tired", None, limit))

    def test_it_runs_the_machine_program_of_itself(self):
        machine = to_machine(machine_universal())
        program = read_value("((main (push a) (call b)) (b (copy (x)) (join)))")
        right = run_machine(program, [("c",)], 100)
        self.assertEqual(right.value, ("a", "c"))
        inner = (program, (("c",),))
        self.assertEqual(run_machine(machine, inner, 100000).value, right.value)
        self.assertEqual(run_program(machine_universal(), [machine, inner], 1000000).value, right.value)

    def test_the_same_again(self):
        self.assertEqual(machine_universal(), machine_universal())


if __name__ == "__main__":
    unittest.main()
