"""Promises [2], [9] and [29] to [31], and the interface, ownglass/across.py."""

import unittest

from ownglass.across import know_own_machine, refute_machine, ring_across
from ownglass.machine import run_program
from ownglass.making import renamed
from ownglass.never import check_never, watch_program
from ownglass.own import know_own, ring
from ownglass.programs import check_program
from ownglass.stacks import check_machine, run_machine
from ownglass.texts import read_value, write_value
from ownglass.translate import from_machine, to_machine
from ownglass.translator import translator
from reference import GlassTest, Maker, ReferenceRun, lists, some_inputs, takes, with_blank, words

ENOUGH = 100000000
SPIN = read_value("((spin (x) (spin x)))")


def functions_of(program, start=0):
    """The functions, renamed from the start on, as a text."""
    return write_value(renamed(program, start))[1:-1]


def behind_translator(program):
    """The functions of translator and of the program as a text, and the number of the next made name."""
    return f"{functions_of(translator())} {functions_of(program, 14)}", 14 + len(program)


def with_own_machine(program):
    """The program of which know_own_machine is the machine program."""
    rows, many = behind_translator(program)
    k = len(program[0][1]) - 1
    return know_own(read_value(f"((f{many} (s{with_blank(k)}) (f14 (f0 s){with_blank(k)})) {rows})"))


def with_translated(program, kinds):
    """The program that ring_across puts into a ring for the handed one."""
    rows, many = behind_translator(program)
    k = len(program[0][1]) - 1
    texts = "(quote ())"
    for at in range(len(kinds) - 1, -1, -1):
        text = f"(head {'(tail ' * at}x1{')' * at})"
        if kinds[at] == "machine":
            text = f"(f0 {text})"
        texts = f"(join {text} {texts})"
    others = "".join(f" x{at}" for at in range(2, k + 2))
    return read_value(f"((f{many} ({words(k + 1)}) (f14 {texts}{others})) {rows})")


class KnowOwnMachineTest(GlassTest):
    def check_known(self, program, inputs):
        """The machine program does on the inputs what the program does on its text and the inputs."""
        made = know_own_machine(program)
        self.check_text(made, write_value(to_machine(with_own_machine(program))))
        self.assertIsNone(check_machine(made))
        right = run_program(program, [made, *inputs], 300)
        if right.kind == "tired":
            self.assertEqual(run_machine(made, inputs, 100000).kind, "tired")
        else:
            run = run_machine(made, inputs, ENOUGH)
            self.assertEqual((run.kind, run.value), (right.kind, right.value))
        return made

    def test_all_numbers_of_inputs(self):
        for count in range(1, 10):
            made = self.check_known(lists(count), some_inputs(count - 1))
            self.assertEqual(run_machine(made, some_inputs(count - 1), ENOUGH).value, (made, *some_inputs(count - 1)))

    def test_one_that_gives_its_own_text(self):
        for count in (1, 2, 9):
            made = know_own_machine(takes(count, "x1"))
            run = run_machine(made, some_inputs(count - 1), ENOUGH)
            self.assertEqual((run.kind, run.value), ("done", made))
            self.assertEqual(write_value(run.value), write_value(made))

    def test_random_programs(self):
        for seed in range(40):
            maker = Maker(seed)
            k = seed % 3
            self.check_known(maker.program(k + 1, 4), [maker.value() for _ in range(k)])

    def test_one_that_compares(self):
        program = read_value("((main (own x) (same own x)))")
        made = self.check_known(program, ["a"])
        self.check_known(program, [made])
        self.assertEqual(run_machine(made, [made], ENOUGH).value, "yes")
        self.assertEqual(run_machine(made, [to_machine(program)], ENOUGH).value, ())

    def test_one_that_never_ends(self):
        made = know_own_machine(read_value("((main (own) (main own)))"))
        for limit in (0, 1, 1000, 200000):
            self.assertEqual(run_machine(made, [], limit).kind, "tired")

    def test_wrong_numbers_of_inputs(self):
        for count in (0, 10, 11, 12):
            self.check_bad_inputs(lambda: know_own_machine(takes(count)))

    def test_bad_programs(self):
        self.check_bad_program(0, lambda: know_own_machine(()))
        self.check_bad_program(0, lambda: know_own_machine(read_value("((main () x))")))
        self.check_bad_program(1, lambda: know_own_machine(takes(10) + ((),)))

    def test_arguments_are_as_they_were_and_answers_the_same_again(self):
        program = lists(2)
        text = write_value(program)
        self.assertEqual(know_own_machine(program), know_own_machine(program))
        self.check_text(program, text)


class RingAcrossTest(GlassTest):
    def check_ring(self, programs, kinds):
        made = ring_across(programs, kinds)
        self.assertIs(type(made), list)
        plain = ring([with_translated(program, kinds) for program in programs])
        self.assertEqual(len(made), len(plain))
        for one, kind, other in zip(made, kinds, plain):
            self.check_text(one, write_value(to_machine(other) if kind == "machine" else other))
            self.assertIsNone(check_machine(one) if kind == "machine" else check_program(one))
        return made

    def value_of(self, one, kind, inputs):
        run = (run_machine if kind == "machine" else run_program)(one, inputs, ENOUGH)
        self.assertEqual(run.kind, "done")
        return run.value

    def test_rings_of_all_kinds(self):
        for kinds in (("plain",), ("machine",), ("plain", "machine"), ("machine", "plain"), ("machine", "machine"),
                      ("plain", "plain"), ("machine", "plain", "machine"), ("plain", "machine", "plain")):
            marks = [f"p{at}" for at in range(len(kinds))]
            programs = [read_value(f"((main (all x) (join (quote {mark}) (join x all))))") for mark in marks]
            made = self.check_ring(programs, kinds)
            for one, kind, mark in zip(made, kinds, marks):
                value = self.value_of(one, kind, ["in"])
                self.assertEqual(write_value(value), write_value((mark, "in", *made)))

    def test_rings_of_six(self):
        kinds = ["plain", "machine", "machine", "plain", "machine", "plain"]
        programs = [takes(1, "x1")] * 5 + [read_value("((main (l) (other l)) (other (l) (head (tail l))))")]
        made = self.check_ring(programs, kinds)
        self.assertEqual(self.value_of(made[0], "plain", []), tuple(made))
        self.assertEqual(self.value_of(made[4], "machine", []), tuple(made))
        self.assertEqual(self.value_of(made[5], "plain", []), made[1])

    def test_all_numbers_of_inputs(self):
        for count in range(1, 9):
            kinds = ("machine", "plain") if count % 2 else ("plain", "machine")
            programs = [lists(count), takes(count, f"x{count}")]
            made = self.check_ring(programs, kinds)
            inputs = some_inputs(count - 1)
            self.assertEqual(self.value_of(made[0], kinds[0], inputs), (tuple(made), *inputs))
            self.assertEqual(self.value_of(made[1], kinds[1], inputs), inputs[-1] if inputs else tuple(made))

    def test_each_prints_the_other(self):
        other, first = read_value("((main (l) (head (tail l))))"), read_value("((main (l) (head l)))")
        for kinds in (("plain", "machine"), ("machine", "plain"), ("machine", "machine"), ("plain", "plain")):
            made = self.check_ring([other, first], kinds)
            self.assertEqual(self.value_of(made[0], kinds[0], []), made[1])
            self.assertEqual(self.value_of(made[1], kinds[1], []), made[0])

    def test_one_that_never_ends(self):
        made = ring_across([read_value("((main (l) (main l)))"), takes(1)], ["machine", "plain"])
        self.assertEqual(run_machine(made[0], [], 300000).kind, "tired")
        self.assertEqual(run_program(made[1], [], ENOUGH).value, "a")

    def test_random_programs(self):
        for seed in range(12):
            maker = Maker(seed)
            k = seed % 3
            programs = [maker.program(k + 1) for _ in range(1 + seed % 3)]
            kinds = [maker.random.choice(("plain", "machine")) for _ in programs]
            made = self.check_ring(programs, kinds)
            inputs = [maker.value() for _ in range(k)]
            for one, kind, program in zip(made, kinds, programs):
                right = run_program(program, [tuple(made), *inputs], 300)
                if right.kind == "done":
                    self.assertEqual(self.value_of(one, kind, inputs), right.value)

    def test_lists_and_tuples(self):
        programs, kinds = [lists(2), takes(2)], ["machine", "plain"]
        made = ring_across(programs, kinds)
        for some in (programs, tuple(programs)):
            for words_of in (kinds, tuple(kinds)):
                self.assertEqual(ring_across(some, words_of), made)
        self.assertEqual((programs, kinds), ([lists(2), takes(2)], ["machine", "plain"]))

    def test_the_returned_list_is_the_callers(self):
        programs, kinds = [lists(1), takes(1)], ("machine", "plain")
        made = ring_across(programs, kinds)
        kept = list(made)
        made.append("a")
        made[0] = ()
        self.assertEqual(ring_across(programs, kinds), kept)

    def test_wrong_numbers_and_words(self):
        one = takes(1)
        self.check_bad_inputs(lambda: ring_across([], []))
        self.check_bad_inputs(lambda: ring_across((), ("plain",)))
        for many in (7, 8, 12, 13):
            self.check_bad_inputs(lambda: ring_across([one] * many, ["plain"] * many))
        for many, others in ((1, 0), (1, 2), (2, 1), (6, 5), (6, 7), (3, 6)):
            self.check_bad_inputs(lambda: ring_across([one] * many, ["machine"] * others))
        for word in ("", "Plain", "plains", "machines", "first", "p", "universal"):
            self.check_bad_inputs(lambda: ring_across([one], [word]))
            self.check_bad_inputs(lambda: ring_across([one, one], ["plain", word]))
            self.check_bad_inputs(lambda: ring_across([one, one], [word, "machine"]))
        for count in (0, 9, 10, 12):
            for many in (1, 2, 6):
                self.check_bad_inputs(lambda: ring_across([takes(count)] * many, ["plain"] * many))
        self.check_bad_inputs(lambda: ring_across([takes(1), takes(2)], ["plain", "machine"]))
        self.check_bad_inputs(lambda: ring_across([takes(3), takes(3), takes(2)], ["plain", "machine", "plain"]))
        self.check_bad_inputs(lambda: ring_across([takes(1), takes(0)], ["plain", "machine"]))

    def test_bad_programs(self):
        first, second = read_value("((main (x) y))"), read_value("((main (x) x) (other () x))")
        for kinds in (["plain", "machine"], ["other", "word"], [], ["plain"] * 3):
            self.check_bad_program(0, lambda: ring_across([first, second], kinds))
            self.check_bad_program(1, lambda: ring_across([second, first], kinds))
            self.check_bad_program(1, lambda: ring_across([takes(0), takes(3), second], kinds))
            self.check_bad_program(0, lambda: ring_across([takes(1)] * 8 + [()], kinds))
            # A machine program is none of the first language.
            self.check_bad_program(0, lambda: ring_across([to_machine(takes(1)), takes(1)], kinds))


class RefuteMachineTest(GlassTest):
    YES = ("((main (push yes)))", "((main (push (()))))", "((main (copy (x))))", "((main (copy (x)) (copy ()) (same)))",
           "((main (call b)) (b (push ()) (word) (push a)))")
    NO = ("((main (push ())))", "((main))", "((main (copy ())))", "((main (copy (x)) (word)))", "((main (call b)) (b (push a) (head)))",
          "((main (join) (head) (word)))")

    def first_program(self, claim):
        """The program of the first language, by the document's words."""
        asked = from_machine(claim, 2)
        many = len(asked)
        front = f"(f{many + 1} (s x1) (if (f0 s x1) (f{many} x1) (quote done)))"
        return with_own_machine(read_value(f"({front} {functions_of(asked)} {functions_of(SPIN, many)})"))

    def check_answer(self, claim, answer, says_yes):
        program = self.first_program(claim)
        machine = to_machine(program)
        self.assertEqual(answer[:3], ("wrong", machine, "ends" if says_yes else "never"))
        self.assertEqual(len(answer), 4)
        self.check_text(answer[1], write_value(machine))
        self.assertIsNone(check_machine(answer[1]))
        if says_yes:
            self.assertIs(check_never(program, [()], answer[3]), True)
            self.assertEqual(watch_program(program, [()], ENOUGH), ("never", answer[3]))
            for limit in (0, 1000, 200000):
                self.assertEqual(run_machine(machine, [()], limit).kind, "tired")
        else:
            run = run_machine(machine, [()], ENOUGH)
            self.assertEqual((run.kind, run.value, run.steps), ("done", "done", answer[3]))
            self.assertEqual(run_machine(machine, [()], answer[3] - 1).kind, "tired")

    def test_claims_that_say_yes(self):
        for text in self.YES:
            claim = read_value(text)
            self.check_answer(claim, refute_machine(claim, 1000), True)

    def test_claims_that_say_no(self):
        for text in self.NO:
            claim = read_value(text)
            self.check_answer(claim, refute_machine(claim, 1000), False)

    def test_claims_that_look_at_the_program(self):
        # The first routine's name is that of know_own's main function.
        claim = "((main (copy (x)) (head) (head) (push NAME) (same)))"
        name = self.first_program(read_value(claim.replace("NAME", "f1")))[0][0]
        yes, no = read_value(claim.replace("NAME", name)), read_value(claim.replace("NAME", "f1"))
        self.check_answer(yes, refute_machine(yes, 1000), True)
        self.check_answer(no, refute_machine(no, 1000), False)
        # What it gets on top is ().
        top = read_value("((main (push ()) (same)))")
        self.check_answer(top, refute_machine(top, 1000), True)

    def test_a_great_value_is_a_yes(self):
        claim = read_value("((main (push a) " + "(copy ()) (join) " * 25 + "))")
        self.assertEqual(run_machine(claim, [(), ()], 1000).kind, "great")
        self.check_answer(claim, refute_machine(claim, 1000), True)

    def test_claims_that_never_end(self):
        for text in ("((main (call main)))", "((main (push a) (call main)))", "((main (push a) (if main main)))"):
            claim = read_value(text)
            machine = to_machine(self.first_program(claim))
            for limit in (0, 1, 100, 20000):
                answer = refute_machine(claim, limit)
                self.assertEqual(answer, ("silent", machine))
                self.check_text(answer[1], write_value(machine))

    def test_limits(self):
        walk = "((walk (copy ()) (if more end)) (more (tail) (call walk)) (end ENDING))"
        for text, steps in (("((main))", 0), ("((main (push ())))", 1), ("((main (push a) (word)))", 2),
                            ("((main (push (a a a)) (call walk)) " + walk.replace("ENDING", "(push end)")[1:], 17),
                            ("((main (push (a a a)) (call walk)) " + walk.replace("ENDING", "(push ())")[1:], 17)):
            claim = read_value(text)
            answers = [refute_machine(claim, limit) for limit in (steps, steps + 1, 20000)]
            self.assertEqual(answers[0][0], "wrong")
            self.assertEqual(answers, [answers[0]] * 3)
            self.check_answer(claim, answers[0], run_machine(claim, [answers[0][1], ()], 100).value != ())
            for limit in (0, 1, steps - 1):
                if 0 <= limit < steps:
                    self.assertEqual(refute_machine(claim, limit), ("silent", answers[0][1]))

    def test_the_paper_is_the_first_one(self):
        claim = read_value("((main (push yes)))")
        answer = refute_machine(claim, 100)
        program = self.first_program(claim)
        self.assertEqual(answer[3][1], answer[3][0] + 2)
        # Calls of the translator never stay open beside the same call.
        self.assertEqual(watch_program(program, [()], answer[3][1] - 1), ("tired",))
        small = from_machine(claim, 2)
        self.assertEqual(ReferenceRun(small, [(), ()], 1000).first_papers(), [])

    def test_bad_claims(self):
        for limit in (0, 1000):
            self.check_bad_program(0, lambda: refute_machine((), limit))
            self.check_bad_program(0, lambda: refute_machine("a", limit))
            self.check_bad_program(0, lambda: refute_machine(read_value("((main (call other)))"), limit))
            self.check_bad_program(1, lambda: refute_machine(read_value("((main) (other (pop)))"), limit))
            self.check_bad_program(0, lambda: refute_machine(read_value("((main (p x) x))"), limit))

    def test_arguments_are_as_they_were_and_answers_the_same_again(self):
        for text in self.YES[:2] + self.NO[:2]:
            claim = read_value(text)
            self.assertEqual(refute_machine(claim, 100), refute_machine(claim, 100))
            self.check_text(claim, text)


if __name__ == "__main__":
    unittest.main()
