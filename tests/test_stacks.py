"""Promises [2], [7], [24] and [25], and the interface, ownglass/stacks.py."""

import unittest

from ownglass.machine import Run
from ownglass.nodes import Nodes
from ownglass.stacks import check_machine, run_machine
from ownglass.texts import read_value, write_value
from reference import GlassTest, Maker, ReferenceMachine

GOOD = (
    "((main))", "(((a b)))", "((()))", "((main) (other) (()) ((main)) ((())))",
    "((main (push a)))", "((main (push ())))", "((main (push (push (push)))))",
    "((main (copy ())))", "((main (copy (a))))", "((main (copy (() (a b) copy))))", "((main (slide ())))",
    "((main (slide (a b c))))",
    "((main (same) (word) (head) (tail) (join)))",
    "((main (call main)))", "((main (call other)) (other))", "((main) (other (call main)))",
    "((main (if main main)))", "((main (if b a)) (a (if main b)) (b (if a a)))",
    # Names that are instructions, and lists.
    "((push (push push)) (call (call call)) (if (if push if)))",
    "(((p1 main) (call (p1 main))))", "((() (call ())))", "((() (if () ())) (a))",
    "(((()) (call ((a) b))) (((a) b) (call (()))))",
    "((DEEP (call (a))) ((a) (if DEEP ((a)))) (((a)) (call DEEP)))".replace("DEEP", "((((((((((a))))))))))"),
    "((a (call (a a))) ((a) (call a)) ((a a) (call (a))))",
)

# A value, and the number of the first wrong routine.
BAD = (
    ("a", 0), ("()", 0), ("push", 0),
    # Routines that are a word or ().
    ("(a)", 0), ("(())", 0), ("(a b)", 0), ("((main) a)", 1), ("((main) ())", 1), ("((main) (other) () a)", 2),
    ("(() (main))", 0),
    # A name used twice.
    ("((a) (a))", 1), ("((a) (b) (a) (b))", 2), ("(((a b)) (c) ((a b)))", 2), ("((()) (()))", 1), ("((a) (a) (a))", 1),
    ("((a (push)) (a))", 0), ("((a) (a (push)))", 1), ("((b) (a (push b)) (c (push)) (a))", 2), ("((a a) (a))", 0),
    # Instructions that are no list with a word ahead.
    ("((main a))", 0), ("((main push))", 0), ("((main ()))", 0), ("((main ((push) a)))", 0), ("((main (())))", 0),
    ("((main (push a) b))", 0), ("((main) (other (push a) ()))", 1), ("((main same))", 0),
    # Unknown words.
    ("((main (pop)))", 0), ("((main (quote a)))", 0), ("((main (main)))", 0), ("((main (a b)))", 0),
    ("((main (pushh a)))", 0),
    ("((main) (other (goto main)))", 1),
    # Too many and too few parts.
    ("((main (push)))", 0), ("((main (push a b)))", 0), ("((main (copy)))", 0), ("((main (copy () ())))", 0),
    ("((main (slide)))", 0),
    ("((main (slide () ())))", 0), ("((main (same a)))", 0), ("((main (word a)))", 0), ("((main (head main)))", 0),
    ("((main (tail ())))", 0), ("((main (join main)))", 0), ("((main (join main main)))", 0), ("((main (call)))", 0),
    ("((main (call main main)))", 0), ("((main (if)))", 0), ("((main (if main)))", 0),
    ("((main (if main main main)))", 0),
    # N that is a word.
    ("((main (copy a)))", 0), ("((main (slide a)))", 0), ("((main) (other (copy main)))", 1),
    # A name of no routine.
    ("((main (call other)))", 0), ("((main (call ())))", 0), ("((main (call (main))))", 0),
    ("(((main) (call main)))", 0),
    ("((main (if main other)))", 0), ("((main (if other main)))", 0), ("((main) (b (call main)) (c (call d)))", 2),
    ("((DEEP) (b (call (DEEP))))".replace("DEEP", "((((((((((a))))))))))"), 1), ("((main (call a)) a)", 0),
    ("((main (call a)) (b a))", 0),
    # A name that only a wrong routine has counts: the wrong routine is the first wrong one.
    ("((main (call other)) (other a))", 1), ("((main (if (x) main)) ((x) (pop)))", 1),
    ("((main (call other)) (other (call b)))", 1),
    ("((main (call other)) () (other a))", 1),
    # Two wrong routines.
    ("((main (pop)) (other (pop)))", 0), ("((main) (other (pop)) (third (pop)))", 1), ("((main) (a (call b)) ())", 1),
)

# A machine program, its inputs, the last one on top, the value, and the steps, counted by hand.
RUNS = (
    ("((main))", "()", "()", 0), ("((main))", "(a)", "a", 0), ("((main))", "(a b)", "b", 0),
    ("((main (push a)))", "()", "a", 1), ("((main (push (a b)) (push c)))", "()", "c", 2),
    ("((main (word)))", "()", "()", 1), ("((main (word)))", "(a)", "yes", 1), ("((main (word)))", "((a))", "()", 1),
    ("((main (head)))", "((a b))", "a", 1), ("((main (head)))", "(((a) b))", "(a)", 1),
    ("((main (head)))", "(a)", "()", 1),
    ("((main (head)))", "(())", "()", 1), ("((main (head)))", "()", "()", 1),
    ("((main (tail)))", "((a b c))", "(b c)", 1), ("((main (tail)))", "(a)", "()", 1),
    ("((main (tail)))", "()", "()", 1),
    ("((main (tail) (tail)))", "((a b c))", "(c)", 2),
    ("((main (same)))", "(a a)", "yes", 1), ("((main (same)))", "((a b) (a b))", "yes", 1),
    ("((main (same)))", "(a b)", "()", 1),
    ("((main (same)))", "(a)", "()", 1), ("((main (same)))", "(())", "yes", 1), ("((main (same)))", "()", "yes", 1),
    # Second and top, in this order.
    ("((main (join)))", "(a (b))", "(a b)", 1), ("((main (join)))", "((a) b)", "((a))", 1),
    ("((main (join)))", "((a) (b c))", "((a) b c)", 1),
    ("((main (join)))", "(a)", "(() )", 1), ("((main (join)))", "((a))", "(() a)", 1),
    ("((main (join)))", "()", "(())", 1),
    # What takes the top one leaves the others.
    ("((main (word) (join)))", "(a b)", "(a)", 2), ("((main (head) (join)))", "(a ((b)))", "(a b)", 2),
    ("((main (same) (join)))", "(a b b)", "(a)", 2), ("((main (join) (join)))", "(a b (c))", "(a b c)", 2),
    ("((main (join) (word)))", "(a b (c))", "()", 2), ("((main (join) (slide ()) (head)))", "(a b (c))", "b", 3),
    # copy counts from the top one.
    ("((main (copy ())))", "(a b c)", "c", 1), ("((main (copy (x))))", "(a b c)", "b", 1),
    ("((main (copy (x y))))", "(a b c)", "a", 1),
    ("((main (copy (x (y) z))))", "(a b c)", "()", 1), ("((main (copy (x x x x x x x x))))", "(a b c)", "()", 1),
    ("((main (copy ())))", "()", "()", 1), ("((main (copy (x)) (same)))", "(a b)", "()", 2),
    ("((main (copy (x)) (join)))", "(a (b))", "((b))", 2), ("((main (copy ()) (join)))", "((b))", "((b) b)", 2),
    ("((main (copy (x x)) (copy (x x)) (join) (join)))", "(a b (c))", "((c) a)", 4),
    # slide keeps the top one.
    ("((main (slide ())))", "(a b c)", "c", 1), ("((main (slide (x))))", "(a b c)", "c", 1),
    ("((main (slide (x)) (word) (copy (x))))", "(a b c)", "a", 3),
    ("((main (slide ()) (copy (x))))", "(a b c)", "b", 2),
    ("((main (slide (x y)) (copy (x))))", "(a b c)", "()", 2),
    ("((main (slide (x y z z z)) (copy ())))", "(a b c)", "c", 2),
    ("((main (slide (x y)) (join)))", "(a b (c))", "(() c)", 2),
    ("((main (slide (x)) (join)))", "(a b (c))", "(a c)", 2),
    ("((main (slide (x)) (push a) (join)))", "()", "(())", 3),
    ("((main (slide (x y)) (push a) (join)))", "(b)", "(b)", 3),
    # if takes the value off.
    ("((main (if a b)) (a (push x)) (b (push y)))", "(())", "y", 2),
    ("((main (if a b)) (a (push x)) (b (push y)))", "(a)", "x", 2),
    ("((main (if a b)) (a (push x)) (b (push y)))", "((()))", "x", 2),
    ("((main (if a b)) (a (push x)) (b (push y)))", "()", "y", 2),
    ("((main (if a b)) (a) (b))", "(c a)", "c", 1), ("((main (if a b)) (a) (b))", "(c ())", "c", 1),
    ("((main (if a b) (push z)) (a (push x)) (b (push y)))", "(a)", "z", 3),
    ("((main (if a b) (join)) (a (push x)) (b (push y)))", "(c a)", "(c)", 3),
    # call goes on behind it, also where it calls what comes earlier or is carried out already.
    ("((main (call a)) (a (push x)))", "()", "x", 2), ("((main (call a) (push y)) (a (push x)))", "()", "y", 3),
    ("((main (call a) (call a) (join)) (a (push x)))", "()", "(x)", 5),
    ("((main (call a) (word)) (a (call b) (head)) (b (tail)))", "((a b c))", "yes", 5),
    ("((a (push x) (call c) (push z)) (b (head)) (c (call b) (call b)))", "()", "z", 7),
    # The first routine is carried out again from a later one.
    ("((main (if more end)) (more (push ()) (call main)) (end (push (end))))", "(a)", "(end)", 5),
    ("((main (call (p1 main))) ((p1 main) (push a)) ((p2 main) (push b)))", "()", "a", 2),
    ("((main (if () (()))) (() (push a)) ((()) (push b)))", "(x)", "a", 2),
)

# Walks down a list: copies it, asks, and takes its tail until it is ().
WALK = "((walk (copy ()) (if more end)) (more (tail) (call walk)) (end (push done)))"


def doubling(count, more=""):
    """A machine program that doubles a list so many times, one after the other."""
    return read_value("((main (push a) " + "(copy ()) (join) " * count + more + "))")


class CheckTest(GlassTest):
    def test_good_ones(self):
        for text in GOOD:
            self.assertIsNone(check_machine(read_value(text)))

    def test_bad_ones(self):
        for text, number in BAD:
            value = read_value(text)
            self.check_bad_program(number, lambda: check_machine(value))
            self.check_bad_program(number, lambda: run_machine(value, [], 100))

    def test_each_instruction_in_each_place(self):
        for word, parts in (("push", 1), ("copy", 1), ("slide", 1), ("same", 0), ("word", 0), ("head", 0), ("tail", 0), ("join", 0),
                            ("call", 1), ("if", 2)):
            for count in range(4):
                instruction = (word, *[()] * count)
                program = (((), ("push", "a")), ("main", ("head",), instruction, ("tail",)))
                if count == parts:
                    self.assertIsNone(check_machine(program))
                else:
                    self.check_bad_program(1, lambda: check_machine(program))

    def test_random_ones_and_those_with_one_thing_changed(self):
        for seed in range(200):
            maker = Maker(seed)
            program = maker.machine(6)
            self.assertIsNone(check_machine(program))
            at = maker.random.randrange(len(program))
            routine = program[at]
            for wrong in ((), "a", (*routine, ()), (*routine, "same"), (*routine, ("same", ())), (*routine, ("call", "nowhere")),
                          (routine[0], ("if", routine[0], ("nowhere",)), *routine[1:]), (*routine, ("copy", "a"))):
                changed = program[:at] + (wrong,) + program[at + 1:]
                number = at
                if wrong in ((), "a"):
                    # Its name is none any more, so an earlier routine may be wrong.
                    calls = [part for part, other in enumerate(changed[:at])
                             if any(routine[0] in part[1:] for part in other[1:] if part[0] in ("call", "if"))]
                    number = min(calls + [at])
                self.check_bad_program(number, lambda: check_machine(changed))
            self.check_bad_program(len(program), lambda: check_machine(program + (routine,)))
            self.check_bad_program(len(program), lambda: check_machine(program + ((routine[0],), ())))

    def test_deep_names(self):
        name = "a"
        for _ in range(199):
            name = (name,)
        for deep in (name, (name, "b"), ("b", name)):
            program = (("main", ("call", deep)), (deep, ("if", "main", deep), ("push", deep), ("copy", deep if deep != "a" else ())))
            self.assertIsNone(check_machine(program))
            self.check_bad_program(0, lambda: check_machine((program[0], (deep[0], *program[1][1:]))))
            self.check_bad_program(2, lambda: check_machine(program + ((deep,),)))

    def test_many_routines(self):
        names = [("p1",) * at for at in range(1, 300)]
        program = tuple((name, ("call", names[-1 - at])) for at, name in enumerate(names))
        self.assertIsNone(check_machine(program))
        self.check_bad_program(298, lambda: check_machine(program[:298] + ((names[298], ("call", ())),)))
        self.check_bad_program(299, lambda: check_machine(program + ((names[5], ("call", names[0])),)))

    def test_the_argument_is_as_it_was(self):
        for text in GOOD:
            value = read_value(text)
            for _ in range(2):
                self.assertIsNone(check_machine(value))
            self.check_text(value, write_value(read_value(text)))


class RunTest(GlassTest):
    def check_run(self, program, inputs, value, steps):
        run = run_machine(program, inputs, steps)
        self.assertIs(type(run), Run)
        self.assertEqual((run.kind, write_value(run.value), run.steps), ("done", write_value(value), steps))
        for limit in (steps + 1, steps + 100, 1000000):
            run = run_machine(program, inputs, limit)
            self.assertEqual((run.kind, write_value(run.value), run.steps), ("done", write_value(value), steps))
        for limit in {0, steps // 2, steps - 1}:
            if 0 <= limit < steps:
                self.check_tired(program, inputs, limit)

    def check_tired(self, program, inputs, limit):
        run = run_machine(program, inputs, limit)
        self.assertEqual((run.kind, run.value, run.steps), ("tired", None, limit))

    def test_runs_by_hand(self):
        for text, inputs, value, steps in RUNS:
            program, values = read_value(text), read_value(inputs)
            self.check_run(program, values, read_value(value), steps)
            self.check_run(program, list(values), read_value(value), steps)

    def test_what_stands_below_the_stack(self):
        # Each way to look below finds () as often as it is asked for.
        for text in ("((main (join) (join) (join)))", "((main (tail) (push ()) (join) (head) (push ()) (join) (push ()) (join)))"):
            run = run_machine(read_value(text), [], 100)
            self.assertEqual(run.value, ReferenceMachine(read_value(text), [], 100).value)
        self.assertEqual(run_machine(read_value("((main (join) (join) (join)))"), [], 100).value, ((), (), ()))
        self.assertEqual(run_machine(read_value("((main (slide (a a a)) (join) (join)))"), ["b", ("c",)], 100).value, ((), (), "c"))

    def test_a_walk(self):
        walk = read_value(WALK)
        for count in range(20):
            # Copy, if, tail and call for each item; copy, if and push at the end.
            self.check_run(walk, [("a",) * count], "done", 4 * count + 3)

    def test_inputs_beyond_what_is_needed(self):
        for count in range(15):
            inputs = [("a",) * at for at in range(count)]
            self.check_run(read_value("((main (push z)))"), inputs, "z", 1)
            self.check_run(read_value("((main))"), inputs, inputs[-1] if inputs else (), 0)
            self.check_run((("main", ("copy", ("a",) * (count - 1))),), inputs, inputs[0] if inputs else (), 1)

    def test_random_ones(self):
        kinds = {"done": 0, "tired": 0}
        for seed in range(1500):
            maker = Maker(seed)
            program = maker.machine()
            inputs = [maker.value() for _ in range(seed % 5)]
            limit = maker.random.choice((3, 10, 30, 200))
            right = ReferenceMachine(program, inputs, limit)
            run = run_machine(program, inputs, limit)
            self.assertEqual((run.kind, run.value, run.steps), (right.kind, right.value, right.steps))
            kinds[run.kind] += 1
        self.assertGreater(min(kinds.values()), 200)

    def test_runs_that_never_end(self):
        for text in ("((main (call main)))", "((main (call main) (push a)))", "((main (if main main)))", "((main (call b)) (b (call main)))",
                     "((main (push a) (if main other)) (other))", "((main (copy ()) (join) (call main)))", "((main (push a) (call main)))"):
            for limit in (0, 1, 2, 3, 10, 999, 1000, 20000):
                self.check_tired(read_value(text), [], limit)

    def test_a_hundred_thousand_open_calls(self):
        self.check_run(read_value(WALK), [("a",) * 100000], "done", 400003)
        # Each call goes on behind it: each one joins an item.
        back = read_value("((down (copy ()) (if more end)) (more (tail) (call down) (push a) (copy (x)) (join) (slide (x))) (end (push ())))")
        run = run_machine(back, [("b",) * 50000], 10000000)
        self.assertEqual((run.kind, run.value, run.steps), ("done", ("a",) * 50000, 4 * 50000 + 3 + 4 * 50000))

    def test_limits_of_long_runs(self):
        walk, inputs = read_value(WALK), [("a",) * 1000]
        for limit, kind in ((4003, "done"), (4002, "tired"), (4004, "done")):
            self.assertEqual(run_machine(walk, inputs, limit).kind, kind)
        # No instruction stands behind the call, or many do.
        straight = (("main", *[("push", "a")] * 60),)
        self.check_run(straight, [], "a", 60)

    def test_doubled_lists(self):
        for count in (17, 18, 70, 300):
            run = run_machine(doubling(count), [], 10000)
            self.assertEqual((run.kind, run.value, run.steps), ("great" if count > 17 else "done", run.value, 2 * count + 1))
            self.assertEqual(run.value is None, count > 17)
            self.check_tired(doubling(count), [], 2 * count)
        # What is taken back out of it, or told of it, is no longer great.
        heads = "(head) " * 70
        self.check_run(doubling(70, heads), [], "a", 211)
        self.check_run(doubling(300, "(head) " * 300), [], "a", 901)
        self.check_run(doubling(70, "(word)"), [], (), 142)
        self.check_run(doubling(300, "(copy ()) (same)"), [], "yes", 603)
        self.check_run(doubling(300, "(copy ()) (tail) (same)"), [], (), 604)
        self.check_run(doubling(300, "(if a b)") + (("a", ("push", "full")), ("b", ("push", "empty"))), [], "full", 603)

    def test_the_bounds_of_values(self):
        pushed = (("main", ("copy", ()), ("copy", ("a",)), ("join",)),)
        for count, kind in ((199998, "done"), (199999, "great")):
            # The list has one part more than it has items that are words, and a joined one more item.
            run = run_machine(pushed, ["b", ("a",) * count], 10)
            self.assertEqual((run.kind, run.steps), ("great", 3))
            run = run_machine(read_value("((main (join)))"), ["b", ("a",) * count], 10)
            self.assertEqual((run.kind, run.steps), (kind, 1))
            self.assertEqual(run.value, ("b",) + ("a",) * count if kind == "done" else None)
        deep = "a"
        for _ in range(199):
            deep = (deep,)
        nested = read_value("((main (push ()) (join)))")
        self.check_run(nested, [deep], (deep,), 2)
        run = run_machine(read_value("((main (push ()) (join) (push ()) (join)))"), [deep], 10)
        self.assertEqual((run.kind, run.value, run.steps), ("great", None, 4))
        run = run_machine(read_value("((main (push ()) (join) (push ()) (join) (head)))"), [deep], 10)
        self.assertEqual((run.kind, run.value, run.steps), ("done", (deep,), 5))

    def test_a_long_copy_is_one_step(self):
        inputs = [str(f"a{at}") for at in range(60)]
        for count in (1, 30, 59, 60):
            program = (("main", ("copy", ("a",) * count)),)
            self.check_run(program, inputs, inputs[-1 - count] if count < 60 else (), 1)
        # A loop of long copies, on a long stack.
        program = read_value("((main (push (a a a)) (call l)) (l (copy N) (slide (x)) (call l)))".replace("N", write_value(("a",) * 60)))
        self.check_tired(program, [("a",)] * 100, 300000)

    def test_a_wrong_program_comes_first(self):
        for text, number in BAD[:8]:
            self.check_bad_program(number, lambda: run_machine(read_value(text), ["a"] * 20, 0))

    def test_arguments_are_as_they_were_and_answers_the_same_again(self):
        for seed in range(50):
            maker = Maker(seed)
            program = maker.machine()
            inputs = [maker.value() for _ in range(3)]
            before = list(inputs)
            text = write_value(program)
            first, second = run_machine(program, inputs, 100), run_machine(program, inputs, 100)
            self.assertEqual((first.kind, first.value, first.steps), (second.kind, second.value, second.steps))
            self.assertEqual((inputs, write_value(program)), (before, text))


if __name__ == "__main__":
    unittest.main()
