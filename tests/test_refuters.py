"""Promises [2], [9], [17] to [19], [22] and [23], and the interface, ownglass/refuters.py."""

import unittest

from ownglass.machine import run_program
from ownglass.making import fill, renamed
from ownglass.never import check_never, watch_program
from ownglass.own import know_own, mirror
from ownglass.programs import check_program, inputs_of, names_of
from ownglass.refuters import (refute_alike, refute_best, refute_ends, refute_grants, refute_list, refute_self,
                               refute_sure, refute_within)
from ownglass.texts import read_value, write_value
from ownglass.universal import universal
from reference import GlassTest, Maker, ReferenceRun, takes

ENOUGH = 10000000
SPIN = read_value("((spin (x) (spin x)))")
DONE = read_value("((done (x) (quote done)))")
OTHER = read_value("((other (x) (quote other)))")

# Bodies of claims about p, with which they say yes, and no; the steps, where p is a program.
YES = (("(quote yes)", 1), ("(quote no)", 1), ("(quote (()))", 1), ("p", 1), ("(word (quote a))", 2),
       ("(if p (quote a) (main p V))", 3), ("(join p p)", 3), ("(same p p)", 3))
NO = (("(quote ())", 1), ("(word p)", 2), ("(head (quote a))", 2), ("(tail (tail (quote (a))))", 3),
      ("(if (word p) (main p V) (quote ()))", 4), ("(same p (quote p))", 3))
GREAT = ("(great (quote (a a a a a a a a a a a a a a a a a a a a)) p)",
         "(great (n v) (if n (great (tail n) (join v v)) v))")
CLOSED = ("(if (id p) (if (id p) (id p) p) p)", "(id (x) x)")


def claim_of(count, body, more=""):
    """A claim with so many inputs, p and perhaps v, that calls itself as main."""
    parameters = "p v"[:2 * count - 1]
    return read_value(f"((main ({parameters}) {body.replace(' V', ' v' if count == 2 else '')}) {more})")


def functions_of(program, start=0):
    """The functions, renamed from the start on, as a text."""
    return write_value(renamed(program, start))[1:-1]


def spinning(claim, parts):
    many = len(claim)
    return know_own(read_value(f"((f{many + 1} (s x1) (if (f0 {parts}) (f{many} x1) (quote done)))"
                               f" {functions_of(claim)} {functions_of(SPIN, many)})"))


def program_on_ends(claim):
    return spinning(claim, "s x1")


def program_on_steps(claim):
    return spinning(claim, "s")


def program_on_self(claim):
    return know_own(read_value(f"((f{len(claim)} (s x1) (if (f0 s) (quote ()) s)) {functions_of(claim)})"))


def program_on_alike(claim):
    body = "(f0 s (quote ((done (x) (quote done)))))"
    return mirror(read_value(f"((f{len(claim)} (s) {body}) {functions_of(claim)})"), DONE, OTHER)


def program_on_best(claim):
    body = "(same (f0 s) (quote ((spin (x) (spin x)))))"
    return mirror(read_value(f"((f{len(claim)} (s) {body}) {functions_of(claim)})"), SPIN, DONE)


def program_on_grants(claim):
    many = len(claim)
    asker = f"(f{many} (s n) (if (f0 s n) (quote yes) (f{many} s (join (quote a) n))))"
    return know_own(read_value(f"((f{many + 1} (s) (f{many} s (quote ()))) {functions_of(claim)} {asker})"))


class RefuterTest(GlassTest):
    """What the tests of the refuters of [17], [19] and [22] share; each one names its refuter."""

    def check_program(self, program, right, inputs=1):
        self.check_text(program, write_value(right))
        self.assertIsNone(check_program(program))
        self.assertEqual(inputs_of(program), inputs)

    def check_paper(self, program, inputs, paper, limit):
        """The paper is right, and the one with the least second number."""
        self.assertIs(type(paper), tuple)
        self.assertIs(check_never(program, inputs, paper), True)
        self.assertEqual(watch_program(program, inputs, limit), ("never", paper))
        if paper[1] < 500:
            self.assertEqual(ReferenceRun(program, inputs, paper[1] + 20).first_papers(), [paper])

    def check_steps(self, program, steps):
        run = run_program(program, [()], ENOUGH)
        self.assertEqual((run.kind, run.steps), ("done", steps))
        self.assertEqual(run_program(program, [()], steps - 1).kind, "tired")

    def steps_on(self, claim, question):
        run = run_program(claim, question, ENOUGH)
        self.assertNotEqual(run.kind, "tired")
        return run.steps

    def check_silent(self, answer, right, claim, question, limit):
        """The answer is silent, with the paper of the claim's run within the limit if it has one."""
        self.assertEqual((answer[0], len(answer)), ("silent", 3))
        self.check_program(answer[1], right)
        told = watch_program(claim, question, limit)
        if answer[2] is None:
            self.assertEqual(told, ("tired",))
        else:
            self.check_paper(claim, question, answer[2], limit)

    def check_never_ending_claims(self, refute, count, program_on, question_on):
        """Claims that never end are silent, with a paper from its second number on, or without one."""
        step = count + 2
        for text, paper in (("(main p V)", (1, step)), ("(head (main p V))", (1, step + 1)),
                            ("(if p (main p V) (quote ()))", (1, step + 2)), ("(main (join p p) V)", None)):
            claim = claim_of(count, text)
            right = program_on(claim)
            question = question_on(right)
            for limit in (0, 1, step - 1, step, step + 1, step + 2, 100, 5000):
                answer = refute(claim, limit)
                self.check_silent(answer, right, claim, question, limit)
                found = paper is not None and paper[1] <= limit
                self.assertEqual(answer[2], paper if found else None)

    def check_limits(self, refute, claim, program_on, question_on):
        """The claim is silent below its steps, and answers from them on."""
        right = program_on(claim)
        question = question_on(right)
        steps = self.steps_on(claim, question)
        for limit in (0, 1, steps - 1):
            if limit < steps:
                answer = refute(claim, limit)
                self.check_silent(answer, right, claim, question, limit)
                self.assertIsNone(answer[2])
        answers = [refute(claim, limit) for limit in (steps, steps + 1, ENOUGH)]
        self.assertNotEqual(answers[0][0], "silent")
        self.assertEqual(answers, [answers[0]] * 3)

    def check_errors(self, refute, count):
        """What is no good program, and what has other inputs, raises."""
        for limit in (0, 1, 1000000):
            self.check_bad_program(0, lambda: refute((), limit))
            self.check_bad_program(0, lambda: refute("a", limit))
            self.check_bad_program(0, lambda: refute(read_value("((main (p v) w))"), limit))
            self.check_bad_program(0, lambda: refute(read_value("((main (p) w))"), limit))
            self.check_bad_program(1, lambda: refute(read_value("((main (p v) p) (main (p) p))"), limit))
            self.check_bad_program(2, lambda: refute(read_value("((main (p) p) (a () (quote a)) (b (x) y))"), limit))
            for other in range(13):
                if other != count:
                    self.check_bad_inputs(lambda: refute(takes(other), limit))

    def check_the_same_again(self, refute, count):
        for body, _ in YES + NO:
            claim = claim_of(count, body)
            text = write_value(claim)
            self.assertEqual(refute(claim, 100), refute(claim, 100))
            self.check_text(claim, text)


class EndsTest(RefuterTest):
    def test_program_by_hand(self):
        answer = refute_ends(read_value("((main (p v) (other v)) (other (v) v))"), 100)
        right = know_own(read_value(
            "((f3 (s x1) (if (f0 s x1) (f2 x1) (quote done))) (f0 (p v) (f1 v)) (f1 (v) v) (f2 (x) (f2 x)))"))
        self.check_program(answer[1], right)
        # The value is (): the claim says no.
        self.assertEqual(answer[2:], ("never", 3 + 27))

    def test_claims_that_say_yes(self):
        for body, steps in YES:
            claim = claim_of(2, body)
            answer = refute_ends(claim, 100)
            self.assertEqual((answer[0], answer[2], len(answer)), ("wrong", "ends", 4))
            self.check_program(answer[1], program_on_ends(claim))
            # Spin begins behind the claim, and again two steps later.
            self.assertEqual(answer[3], (steps + 29, steps + 31))
            self.check_paper(answer[1], [()], answer[3], 1000)

    def test_claims_that_say_no(self):
        for body, steps in NO:
            claim = claim_of(2, body)
            answer = refute_ends(claim, 100)
            self.assertEqual(answer, ("wrong", program_on_ends(claim), "never", steps + 27))
            self.check_steps(answer[1], answer[3])

    def test_claims_that_look(self):
        for body, more, word in (("(same (head (head p)) (quote f4))", "", "ends"),
                                 ("(same (head (head p)) (quote f3))", "", "never"),
                                 ("(same v (quote ()))", "", "ends"), ("v", "", "never"),
                                 (*GREAT, "ends"), (*CLOSED, "ends")):
            claim = claim_of(2, body, more)
            answer = refute_ends(claim, 1000)
            self.assertEqual(answer[:3], ("wrong", program_on_ends(claim), word))
            steps = self.steps_on(claim, [answer[1], ()])
            if word == "ends":
                self.assertEqual(answer[3], (steps + 29, steps + 31))
                self.check_paper(answer[1], [()], answer[3], 1000)
            else:
                self.assertEqual(answer[3], steps + 27)
                self.check_steps(answer[1], answer[3])

    def test_claims_that_run_the_program(self):
        # It waits for the program, which waits for it.
        claim = fill(read_value("((main (u p v) (run p v)) (run (p v) (main p p v)))"), "u")
        self.assertEqual(refute_ends(claim, 1000)[0], "silent")
        answer = refute_ends(universal_claim(), 30000)
        self.assertEqual((answer[0], answer[2]), ("silent", None))

    def test_claims_that_never_end(self):
        self.check_never_ending_claims(refute_ends, 2, program_on_ends, lambda program: [program, ()])

    def test_limits(self):
        for body, more in ((YES[4][0], ""), (NO[5][0], ""), ("p", ""), GREAT, CLOSED):
            self.check_limits(refute_ends, claim_of(2, body, more), program_on_ends, lambda program: [program, ()])

    def test_errors(self):
        self.check_errors(refute_ends, 2)

    def test_arguments_are_as_they_were_and_answers_the_same_again(self):
        self.check_the_same_again(refute_ends, 2)


def universal_claim():
    """A claim of two inputs that runs the program on the value, and then says yes."""
    functions = functions_of(universal())
    return read_value(f"((f11 (p v) (if (f0 p (join v (quote ()))) (quote yes) (quote yes))) {functions})")


class SelfTest(RefuterTest):
    def test_program_by_hand(self):
        answer = refute_self(read_value("((main (p) (other p)) (other (v) v))"), 100)
        right = know_own(read_value("((f2 (s x1) (if (f0 s) (quote ()) s)) (f0 (p) (f1 p)) (f1 (v) v))"))
        self.check_program(answer[1], right)
        self.assertEqual(answer, ("wrong", right, "own", ()))

    def test_claims_that_say_yes(self):
        for body, _ in YES:
            claim = claim_of(1, body)
            answer = refute_self(claim, 100)
            self.assertEqual(answer, ("wrong", program_on_self(claim), "own", ()))
            self.assertEqual(run_program(answer[1], [()], 1000).value, ())

    def test_claims_that_say_no(self):
        for body, _ in NO:
            claim = claim_of(1, body)
            answer = refute_self(claim, 100)
            right = program_on_self(claim)
            self.assertEqual(answer, ("wrong", right, "other", right))
            self.assertEqual(run_program(right, [()], 1000).value, right)

    def test_claims_that_look(self):
        for body, more, word in (("(same (head (head p)) (quote f3))", "", "own"),
                                 ("(same (head (head p)) (quote f4))", "", "other"),
                                 (*GREAT, "own"), (*CLOSED, "own")):
            claim = claim_of(1, body, more)
            right = program_on_self(claim)
            value = () if word == "own" else right
            self.assertEqual(refute_self(claim, 1000), ("wrong", right, word, value))

    def test_a_claim_that_compares_the_text_with_one(self):
        # It says yes to a program that quotes nothing, and no to the others.
        claim = claim_of(1, "(word (head (tail (head (tail (tail (head p)))))))")
        self.assertEqual(refute_self(claim, 100)[2], "other")

    def test_claims_that_never_end(self):
        self.check_never_ending_claims(refute_self, 1, program_on_self, lambda program: [program])

    def test_limits(self):
        for body, more in ((YES[4][0], ""), (NO[5][0], ""), ("p", ""), GREAT, CLOSED):
            self.check_limits(refute_self, claim_of(1, body, more), program_on_self, lambda program: [program])

    def test_errors(self):
        self.check_errors(refute_self, 1)

    def test_arguments_are_as_they_were_and_answers_the_same_again(self):
        self.check_the_same_again(refute_self, 1)


class AlikeTest(RefuterTest):
    def test_program_by_hand(self):
        answer = refute_alike(read_value("((main (p v) (other v)) (other (v) v))"), 100)
        right = know_own(read_value(
            "((f5 (s x1) (if (f0 s) (f4 x1) (f3 x1)))"
            " (f0 (s) (f1 s (quote ((done (x) (quote done)))))) (f1 (p v) (f2 v)) (f2 (v) v)"
            " (f3 (x) (quote done)) (f4 (x) (quote other)))"))
        self.check_program(answer[1], right)
        self.assertEqual(answer[2:], ("alike", "other"))

    def test_claims_that_say_yes(self):
        for body, _ in YES:
            claim = claim_of(2, body)
            answer = refute_alike(claim, 100)
            self.assertEqual(answer, ("wrong", program_on_alike(claim), "alike", "other"))
            self.assertEqual(run_program(answer[1], [()], 1000).value, "other")

    def test_claims_that_say_no(self):
        for body, _ in NO:
            claim = claim_of(2, body)
            answer = refute_alike(claim, 100)
            self.assertEqual(answer, ("wrong", program_on_alike(claim), "unlike", "done"))
            self.assertEqual(run_program(answer[1], [()], 1000).value, "done")

    def test_claims_that_look(self):
        for body, more, word in (("(same v (quote ((done (x) (quote done)))))", "", "alike"),
                                 ("(same v (quote ((other (x) (quote other)))))", "", "unlike"),
                                 ("(same p v)", "", "unlike"), ("(same (head (head p)) (quote f6))", "", "alike"),
                                 (*GREAT, "alike"), (*CLOSED, "alike")):
            claim = claim_of(2, body, more)
            value = "other" if word == "alike" else "done"
            self.assertEqual(refute_alike(claim, 1000), ("wrong", program_on_alike(claim), word, value))

    def test_claims_that_never_end(self):
        self.check_never_ending_claims(refute_alike, 2, program_on_alike, lambda program: [program, DONE])

    def test_limits(self):
        for body, more in ((YES[4][0], ""), (NO[5][0], ""), ("v", ""), GREAT, CLOSED):
            self.check_limits(refute_alike, claim_of(2, body, more), program_on_alike, lambda program: [program, DONE])

    def test_errors(self):
        self.check_errors(refute_alike, 2)

    def test_arguments_are_as_they_were_and_answers_the_same_again(self):
        self.check_the_same_again(refute_alike, 2)


class BestTest(RefuterTest):
    SPIN_BODIES = (("(quote ((spin (x) (spin x))))", 1), ("(if p (quote ((spin (x) (spin x)))) p)", 3),
                   ("(join (quote (spin (x) (spin x))) (quote ()))", 3))

    def test_program_by_hand(self):
        answer = refute_best(read_value("((main (p) (other p)) (other (v) v))"), 100)
        right = know_own(read_value(
            "((f5 (s x1) (if (f0 s) (f4 x1) (f3 x1)))"
            " (f0 (s) (same (f1 s) (quote ((spin (x) (spin x)))))) (f1 (p) (f2 p)) (f2 (v) v)"
            " (f3 (x) (f3 x)) (f4 (x) (quote done)))"))
        self.check_program(answer[1], right)
        self.assertEqual((answer[0], answer[2]), ("wrong", "other"))
        self.check_paper(right, [()], answer[3], 1000)

    def test_claims_that_give_spin(self):
        for body, steps in self.SPIN_BODIES:
            claim = claim_of(1, body)
            answer = refute_best(claim, 100)
            # The claim, 4 steps to ask it, 1 of done, and 27 of the mirror.
            self.assertEqual(answer, ("wrong", program_on_best(claim), "spin", steps + 4 + 1 + 27))
            self.check_steps(answer[1], answer[3])
            self.assertEqual(run_program(answer[1], [()], 1000).value, "done")

    def test_claims_that_give_something_else(self):
        others = ("(quote ((spin (y) (spin y))))", "(quote ((spin (x) (spin x)) (spin (x) (spin x))))",
                  "(quote (spin (x) (spin x)))", "(quote spin)", "(quote ((f0 (x) (f0 x))))", "(quote (((spin))))")
        for body in others + tuple(body for body, _ in YES + NO):
            claim = claim_of(1, body)
            answer = refute_best(claim, 100)
            self.assertEqual(answer[:3], ("wrong", program_on_best(claim), "other"))
            steps = self.steps_on(claim, [answer[1]])
            self.assertEqual(answer[3], (steps + 32, steps + 34))
            self.check_paper(answer[1], [()], answer[3], 1000)

    def test_claims_that_look(self):
        look = "(if (same (head (head p)) (quote f6)) (quote ((spin (x) (spin x)))) p)"
        self.assertEqual(refute_best(claim_of(1, look), 100)[2:], ("spin", 7 + 32))
        self.assertEqual(refute_best(claim_of(1, look.replace("f6", "f5")), 100)[2], "other")
        for body, more in (GREAT, CLOSED):
            claim = claim_of(1, body, more)
            answer = refute_best(claim, 1000)
            self.assertEqual(answer[:3], ("wrong", program_on_best(claim), "other"))
            self.check_paper(answer[1], [()], answer[3], 1000)

    def test_claims_that_never_end(self):
        self.check_never_ending_claims(refute_best, 1, program_on_best, lambda program: [program])

    def test_limits(self):
        for body, more in ((YES[4][0], ""), (NO[5][0], ""), (self.SPIN_BODIES[1][0], ""), GREAT, CLOSED):
            self.check_limits(refute_best, claim_of(1, body, more), program_on_best, lambda program: [program])

    def test_errors(self):
        self.check_errors(refute_best, 1)

    def test_arguments_are_as_they_were_and_answers_the_same_again(self):
        self.check_the_same_again(refute_best, 1)


class ListTest(GlassTest):
    def test_text_by_hand(self):
        made = refute_list(read_value("((main (v) (other v)) (other (x) (quote x)))"))
        self.check_text(made, "((f13 (x1) (join (quote x) (f0 (f11 x1) (join x1 (quote ())))))"
                              f" {functions_of(universal())} (f11 (v) (f12 v)) (f12 (x) (quote x)))")

    def test_texts(self):
        for seed in range(50):
            lister = Maker(seed).program(1, 4)
            many = 11 + len(lister)
            made = refute_list(lister)
            self.check_text(made, f"((f{many} (x1) (join (quote x) (f0 (f11 x1) (join x1 (quote ())))))"
                                  f" {functions_of(universal())} {functions_of(lister, 11)})")
            self.assertIsNone(check_program(made))
            self.assertEqual(inputs_of(made), 1)
            self.assertEqual(names_of(made), [f"f{many}"] + [f"f{at}" for at in range(many)])

    def check_on(self, lister, value):
        """On the value it has x ahead of what the listed program has."""
        listed = run_program(lister, [value], 1000).value
        right = run_program(listed, [value], 1000)
        run = run_program(refute_list(lister), [value], 100000)
        if right.kind == "tired":
            self.assertEqual(run.kind, "tired")
        else:
            items = right.value if isinstance(right.value, tuple) else ()
            self.assertEqual((run.kind, run.value), ("done", ("x", *items)))
            self.assertNotEqual(run.value, right.value)

    def test_values(self):
        programs = ["((main (x) x))", "((main (x) (quote x)))", "((main (x) (quote (x))))", "((main (x) (quote ())))",
                    "((main (x) (join (quote x) (join x x))))", "((main (x) (other x x)) (other (y z) (same y z)))",
                    "((spin (x) (spin x)))"]
        listed = read_value(f"({' '.join(programs)})")
        lister = read_value("((main (v) (find v (quote ALL))) (find (v l) (if v (find (tail v) (tail l)) (head l))))"
                            .replace("ALL", write_value(listed)))
        for at in range(len(programs)):
            self.check_on(lister, ("a",) * at)

    def test_random_listed_programs(self):
        for seed in range(60):
            maker = Maker(seed)
            self.check_on((("main", ("v",), ("quote", maker.program(1))),), maker.value())

    def test_a_lister_that_never_ends(self):
        made = refute_list(SPIN)
        for limit in (0, 10, 1000):
            self.assertEqual(run_program(made, ["a"], limit).kind, "tired")

    def test_errors(self):
        for count in (0, 2, 3, 9, 12):
            self.check_bad_inputs(lambda: refute_list(takes(count)))
        self.check_bad_program(0, lambda: refute_list(()))
        self.check_bad_program(0, lambda: refute_list(read_value("((main () x))")))
        self.check_bad_program(1, lambda: refute_list(read_value("((main (x y) x) (main () x))")))

    def test_arguments_are_as_they_were_and_answers_the_same_again(self):
        text = "((main (v) (other v)) (other (x) (quote x)))"
        lister = read_value(text)
        self.assertEqual(refute_list(lister), refute_list(lister))
        self.check_text(lister, text)


class WithinTest(RefuterTest):
    def test_program_by_hand(self):
        answer = refute_within(read_value("((main (p) (other p)) (other (v) v))"), 100)
        right = know_own(read_value(
            "((f3 (s x1) (if (f0 s) (f2 x1) (quote done))) (f0 (p) (f1 p)) (f1 (v) v) (f2 (x) (f2 x)))"))
        self.check_program(answer[1], right)
        self.assertEqual(answer[2:], ("within", (31, 33)))

    def test_claims_that_say_yes(self):
        for body, steps in YES:
            claim = claim_of(1, body)
            answer = refute_within(claim, 100)
            self.assertEqual(answer, ("wrong", program_on_steps(claim), "within", (steps + 28, steps + 30)))
            self.check_program(answer[1], program_on_steps(claim))
            self.check_paper(answer[1], [()], answer[3], 1000)

    def test_claims_that_say_no(self):
        for body, steps in NO:
            claim = claim_of(1, body)
            for bound in (steps + 26, 100):
                answer = refute_within(claim, bound)
                self.assertEqual(answer, ("wrong", program_on_steps(claim), "not within", steps + 26))
                self.check_steps(answer[1], answer[3])
                self.assertLessEqual(answer[3], bound)

    def test_claims_that_look(self):
        for body, more, word in (("(same (head (head p)) (quote f4))", "", "within"),
                                 ("(same (head (head p)) (quote f3))", "", "not within"),
                                 (*GREAT, "within"), (*CLOSED, "within")):
            claim = claim_of(1, body, more)
            self.assertEqual(refute_within(claim, 1000)[:3], ("wrong", program_on_steps(claim), word))

    def test_bounds(self):
        for body, more in (("p", ""), ("(quote ())", ""), ("(same p p)", ""), ("(word p)", ""), GREAT, CLOSED):
            claim = claim_of(1, body, more)
            right = program_on_steps(claim)
            steps = self.steps_on(claim, [right])
            for bound in (0, 1, 25, 26, steps, steps + 25):
                if bound < steps + 26:
                    self.assertEqual(refute_within(claim, bound), ("slow", right))
            answers = [refute_within(claim, bound) for bound in (steps + 26, steps + 27, 1000000)]
            self.assertEqual(answers[0][0], "wrong")
            self.assertEqual(answers, [answers[0]] * 3)

    def test_claims_that_never_end(self):
        for body in ("(main p)", "(main (join p p))"):
            claim = claim_of(1, body)
            for bound in (0, 25, 26, 27, 30, 1000):
                answer = refute_within(claim, bound)
                self.assertEqual(answer, ("slow", program_on_steps(claim)))
                self.check_program(answer[1], program_on_steps(claim))

    def test_errors(self):
        self.check_errors(refute_within, 1)

    def test_arguments_are_as_they_were_and_answers_the_same_again(self):
        self.check_the_same_again(refute_within, 1)


class SureTest(RefuterTest):
    def test_claims_that_say_yes(self):
        for body, steps in YES:
            claim = claim_of(1, body)
            answer = refute_sure(claim, 100)
            self.assertEqual(answer, ("wrong", program_on_steps(claim), (steps + 28, steps + 30)))
            self.check_program(answer[1], program_on_steps(claim))
            self.check_paper(answer[1], [()], answer[2], 1000)

    def test_claims_that_say_no(self):
        for body, steps in NO:
            claim = claim_of(1, body)
            answer = refute_sure(claim, 100)
            self.assertEqual(answer, ("missed", program_on_steps(claim), steps + 26))
            for value in ((), "a", (("a",),)):
                self.assertEqual(run_program(answer[1], [value], 1000).steps, answer[2])

    def test_claims_that_look(self):
        for body, more, outcome in (("(same (head (head p)) (quote f4))", "", "wrong"),
                                    ("(same (head (head p)) (quote f3))", "", "missed"),
                                    (*GREAT, "wrong"), (*CLOSED, "wrong")):
            claim = claim_of(1, body, more)
            self.assertEqual(refute_sure(claim, 1000)[:2], (outcome, program_on_steps(claim)))

    def test_claims_that_never_end(self):
        self.check_never_ending_claims(refute_sure, 1, program_on_steps, lambda program: [program])

    def test_limits(self):
        for body, more in ((YES[4][0], ""), (NO[5][0], ""), ("p", ""), GREAT, CLOSED):
            self.check_limits(refute_sure, claim_of(1, body, more), program_on_steps, lambda program: [program])

    def test_errors(self):
        self.check_errors(refute_sure, 1)

    def test_arguments_are_as_they_were_and_answers_the_same_again(self):
        self.check_the_same_again(refute_sure, 1)


class GrantsTest(RefuterTest):
    def grant_at(self, count, yes="(quote yes)"):
        """A claim that says yes from the list of so many a on."""
        text = write_value(("a",) * count)
        return claim_of(2, f"(if (less v (quote {text})) (quote ()) {yes})",
                        "(less (x y) (if y (if x (less (tail x) (tail y)) (quote yes)) (quote ())))")

    def steps_of(self, claim, program, most):
        """The steps of the claim's runs on the first lists."""
        return [self.steps_on(claim, [program, ("a",) * at]) for at in range(most)]

    def test_program_by_hand(self):
        answer = refute_grants(read_value("((main (p n) (other n)) (other (v) (quote ())))"), 3, 100)
        right = know_own(read_value(
            "((f3 (s) (f2 s (quote ()))) (f0 (p n) (f1 n)) (f1 (v) (quote ()))"
            " (f2 (s n) (if (f0 s n) (quote yes) (f2 s (join (quote a) n)))))"))
        self.assertEqual(answer, ("kept", right))
        self.check_program(answer[1], right, 0)
        self.assertEqual(right[2][0], "f0")

    def test_claims_that_say_yes(self):
        for body, steps in YES:
            claim = claim_of(2, body)
            for most in (1, 2, 100):
                answer = refute_grants(claim, most, 100)
                self.assertEqual(answer, ("wrong", program_on_grants(claim), 0, steps + 28))
            self.check_program(answer[1], program_on_grants(claim), 0)
            run = run_program(answer[1], [], 1000)
            self.assertEqual((run.kind, run.value, run.steps), ("done", "yes", answer[3]))

    def test_claims_that_say_yes_later(self):
        for count in (1, 2, 3, 10, 200):
            claim = self.grant_at(count)
            right = program_on_grants(claim)
            answer = refute_grants(claim, count + 1, 100000)
            steps = self.steps_of(claim, right, count + 1)
            # Each time that it says no takes 9 steps more than the claim.
            self.assertEqual(answer, ("wrong", right, count, sum(steps) + 9 * count + 28))
            self.assertEqual(run_program(right, [], ENOUGH).steps, answer[3])
            self.assertEqual(refute_grants(claim, 1000, 100000), answer)
            self.assertEqual(refute_grants(claim, count, 100000), ("kept", right))

    def test_a_great_value_is_a_yes(self):
        body, more = GREAT
        claim = claim_of(2, f"(if v {body} (quote ()))", more)
        answer = refute_grants(claim, 5, 1000)
        self.assertEqual(answer[:3], ("wrong", program_on_grants(claim), 1))
        self.assertEqual(run_program(answer[1], [], ENOUGH).steps, answer[3])

    def test_claims_that_look_at_the_program(self):
        claim = claim_of(2, "(same (head (head p)) (quote f4))")
        self.assertEqual(refute_grants(claim, 5, 100)[2], 0)
        claim = claim_of(2, "(same (head (head p)) (quote f3))")
        self.assertEqual(refute_grants(claim, 5, 100), ("kept", program_on_grants(claim)))

    def test_claims_that_look_at_the_list(self):
        spin = "(spin (x) (spin x))"
        for body, more, answer in (
                ("(same v (quote (a a a)))", "", ("wrong", 3)), ("(same (head v) (quote a))", "", ("wrong", 1)),
                ("(same v (quote (b)))", "", ("kept",)), ("(same v (quote (a)))", "", ("wrong", 1)), ("(same v (quote ()))", "", ("wrong", 0)),
                ("(if (same v (quote (a a))) (spin p) (quote ()))", spin, ("silent", 2)),
                ("(if (same v (quote (b b))) (spin p) (quote ()))", spin, ("kept",))):
            claim = claim_of(2, body, more)
            found = refute_grants(claim, 10, 1000)
            self.assertEqual((found[0], *found[2:3]), answer)
            if found[0] == "silent":
                self.check_paper(claim, [found[1], ("a",) * found[2]], found[3], 1000)

    def test_claims_that_say_no(self):
        for body, _ in NO:
            claim = claim_of(2, body)
            for most in (0, 1, 2, 300, 1000):
                self.assertEqual(refute_grants(claim, most, 100), ("kept", program_on_grants(claim)))

    def test_no_questions(self):
        for body in ("p", "(quote ())", "(main p v)"):
            claim = claim_of(2, body)
            for limit in (0, 1, 1000):
                self.assertEqual(refute_grants(claim, 0, limit), ("kept", program_on_grants(claim)))

    def test_claims_that_are_silent(self):
        for count in (0, 1, 2, 30):
            for yes, paper in (("(spin p)", True), ("(grow p)", False)):
                spins = self.grant_at(count, yes)
                claim = spins + read_value("((spin (x) (spin x)) (grow (x) (grow (join x x))))")
                right = program_on_grants(claim)
                answer = refute_grants(claim, count + 1, 3000)
                self.assertEqual(answer[:3], ("silent", right, count))
                question = [right, ("a",) * count]
                if paper:
                    self.check_paper(claim, question, answer[3], 3000)
                else:
                    self.assertIsNone(answer[3])
                    self.assertEqual(watch_program(claim, question, 3000), ("tired",))
                self.assertEqual(len(answer), 4)
                self.assertEqual(refute_grants(claim, count, 3000), ("kept", right))

    def test_limits(self):
        for count in (0, 1, 5):
            claim = self.grant_at(count)
            right = program_on_grants(claim)
            steps = self.steps_of(claim, right, count + 1)
            for limit in (0, 1, *steps, *[some - 1 for some in steps], max(steps)):
                answer = refute_grants(claim, count + 1, limit)
                late = [at for at, some in enumerate(steps) if some > limit]
                if late:
                    self.assertEqual(answer, ("silent", right, late[0], None))
                else:
                    self.assertEqual(answer[:3], ("wrong", right, count))

    def test_a_paper_only_from_its_second_number_on(self):
        claim = claim_of(2, "(main p v)")
        right = program_on_grants(claim)
        for limit, paper in ((0, None), (3, None), (4, (1, 4)), (1000, (1, 4))):
            self.assertEqual(refute_grants(claim, 5, limit), ("silent", right, 0, paper))

    def test_errors(self):
        for most in (0, 1, 1000):
            self.check_errors(lambda claim, limit: refute_grants(claim, most, limit), 2)

    def test_arguments_are_as_they_were_and_answers_the_same_again(self):
        self.check_the_same_again(lambda claim, limit: refute_grants(claim, 3, limit), 2)


if __name__ == "__main__":
    unittest.main()
