"""Promises [2], [17], [19], [22] and [23] as they are judged, and the interface, ownglass/judges.py."""

import unittest

from ownglass.judges import judge_answer, judge_grants
from ownglass.machine import run_program
from ownglass.making import renamed
from ownglass.never import check_never
from ownglass.refuters import (refute_alike, refute_best, refute_ends, refute_grants, refute_self, refute_sure,
                               refute_within)
from ownglass.texts import read_value, write_value
from reference import GlassTest, takes

REFUTERS = {"ends": refute_ends, "self": refute_self, "alike": refute_alike, "best": refute_best,
            "within": refute_within, "sure": refute_sure}
INPUTS = {"ends": 2, "self": 1, "alike": 2, "best": 1, "within": 1, "sure": 1}
DONE = read_value("((done (x) (quote done)))")

# Functions behind the main one: id is called on the same value again, when the call before is closed.
MORE = ("(id (x) x) (spin (x) (spin x)) (grow (x) (grow (join x x)))"
        " (great (n v) (if n (great (tail n) (join v v)) v))")
SPIN_BODY = "(quote ((spin (x) (spin x))))"
YES = ("(quote yes)", "p", "(if (id p) (if (id p) (id p) p) p)", "(join p p)",
       "(great (quote (a a a a a a a a a a a a a a a a a a a a)) p)", SPIN_BODY, f"(id {SPIN_BODY})")
NO = ("(quote ())", "(word p)", "(if (id p) (head (tail (word (id p)))) p)", "(same p (id (tail p)))")
NEVER = ("(spin p)", "(if (id p) (if (id p) (spin p) p) p)", "(head (spin (id p)))")
GROWING = ("(grow p)",)


def claim_of(count, body):
    return read_value(f"((main ({'p v'[:2 * count - 1]}) {body}) {MORE})")


def question_of(kind, program):
    return {"ends": [program, ()], "alike": [program, DONE]}.get(kind, [program])


def changed_program(program):
    """Programs that are not the right one, most of them by a word or a list."""
    name, parameters, body = program[0]
    quoted = body[1][1]
    yield (("f0", parameters, body),) + program[1:]
    yield ((name, ("x2",), body),) + program[1:]
    yield ((name, parameters, (*body[:-1], "x2")),) + program[1:]
    yield ((name, parameters, (body[0], ("quote", quoted[1:]), *body[2:])),) + program[1:]
    yield ((name, parameters, (body[0], ("quote", (*quoted, ())), *body[2:])),) + program[1:]
    yield program[:-1]
    yield program[1:]
    yield (*program, program[-1])
    yield (*program, ())
    yield renamed(program, 0)
    yield (*program[:-1], (*program[-1][:-1], ("quote", ())))
    yield deep_change(program)
    yield ()
    yield "a"
    yield None
    yield 5
    yield (1, 2)
    yield (None,) * len(program)


def deep_change(value):
    """The value with its last word at the deepest place changed."""
    if isinstance(value, str):
        return "zz"
    for at in range(len(value) - 1, -1, -1):
        if value[at] != ():
            return value[:at] + (deep_change(value[at]),) + value[at + 1:]
    return ("zz",)


class JudgeTest(GlassTest):
    def check(self, call, answer, right):
        self.assertIs(call(answer), right)

    def check_other_forms(self, call, answer):
        """Answers in another form, with other words, and with other programs."""
        wrong = [(), answer[:-1], answer[:1], (*answer, answer[-1]), (*answer, None), (*answer, ()), (None,) * len(answer),
                 ("a",) * len(answer), (1,) * len(answer), ((),) * len(answer), (answer,), tuple(reversed(answer)),
                 ("right", *answer[1:]), ("", *answer[1:]), (None, *answer[1:]), (0, *answer[1:]), ((), *answer[1:]),
                 (answer[0], *answer[2:]), (answer[1], answer[0], *answer[2:]), ("silent",), ("slow",), ("wrong",), (None,)]
        wrong += [(word, *answer[1:]) for word in ("wrong", "silent", "slow", "missed", "kept") if word != answer[0]]
        wrong += [(word, *answer[1:-1]) for word in ("wrong", "silent", "slow", "missed", "kept")]
        wrong += [(answer[0], program, *answer[2:]) for program in changed_program(answer[1])]
        for some in wrong:
            self.check(call, some, False)

    def check_words(self, call, answer):
        """Answers with another word in the third place, and those of other kinds."""
        others = ("ends", "never", "own", "other", "alike", "unlike", "spin", "within", "not within", "", "done", None, 0, ())
        for word in others:
            if word != answer[2]:
                self.check(call, (*answer[:2], word, *answer[3:]), False)

    def check_steps(self, call, answer):
        steps = answer[-1]
        others = (steps + 1, steps - 1, 0, 1, -steps, None, "a", (), (steps,), (steps, steps + 2), str(steps), steps * 2)
        for other in others:
            self.check(call, (*answer[:-1], other), False)

    def check_value(self, call, answer):
        for other in ("a", "done", "other", (), (answer[-1],), answer[1], answer[1][1:], None, 0, 30, (30, 32)):
            if other != answer[-1]:
                self.check(call, (*answer[:-1], other), False)

    def check_paper(self, call, answer, program, inputs):
        """The paper may be another right one, and nothing else."""
        first, second = answer[-1]
        for pair in [(m, n) for m in range(-1, second + 9) for n in (second - 2, second - 1, second, second + 1, second + 4)]:
            self.check(call, (*answer[:-1], pair), check_never(program, inputs, pair))
        for pair in ((first, second + 2), (first, second + 1000), (first + 2, second + 2), (first + 20, second + 30)):
            self.check(call, (*answer[:-1], pair), True)
        for other in ((second, first), (first, first), (first - 1, second), (first + 1, second), (first, second - 1),
                      (first, second + 1), (first,), (first, second, second), (first, second, second + 2), (), "a", 0, first,
                      ("a", "b"), (first, "b"), ("a", second), (None, second), (first, None), ((), ()), (0, second),
                      ((first,), (second,)), (str(first), str(second)), (-1, 1), (0, 0)):
            self.check(call, (*answer[:-1], other), False)


class AnswerTest(JudgeTest):
    def answers(self, bodies, limit):
        """For each kind and claim: the kind, the claim, the answer, and a call that judges an answer to it."""
        for kind, refute in REFUTERS.items():
            for body in bodies:
                claim = claim_of(INPUTS[kind], body)
                answer = refute(claim, limit)
                yield kind, claim, answer, lambda some, kind=kind, claim=claim: judge_answer(kind, claim, limit, some)

    def test_right_answers(self):
        for kind, claim, answer, call in self.answers(YES + NO + NEVER + GROWING, 1000):
            self.check(call, answer, True)
            self.check(call, tuple(list(answer)), True)
            again = (*answer[:1], read_value(write_value(answer[1])), *answer[2:])
            self.check(call, again, True)

    def test_answers_to_claims_that_say_something(self):
        for kind, claim, answer, call in self.answers(YES + NO, 1000):
            self.check_other_forms(call, answer)
            if kind == "sure":
                outcomes = ("wrong", "missed")
                self.check(call, (outcomes[answer[0] == "wrong"], *answer[1:]), False)
            else:
                self.check_words(call, answer)
            if isinstance(answer[-1], int):
                self.check_steps(call, answer)
            elif kind in ("self", "alike"):
                self.check_value(call, answer)
            self.check(call, (*answer[:-1], None), False)

    def test_papers_of_the_program(self):
        found = 0
        for kind, claim, answer, call in self.answers(YES[:4] + NO[2:3], 1000):
            if isinstance(answer[-1], tuple) and kind not in ("self", "alike"):
                self.check_paper(call, answer, answer[1], [()])
                found += 1
        self.assertGreater(found, 12)

    def test_a_paper_of_a_closed_call(self):
        claim = claim_of(1, YES[2])
        answer = refute_within(claim, 1000)
        run = run_program(claim, [answer[1]], 1000)
        self.assertEqual((run.steps, answer[3]), (11, (11 + 28, 11 + 30)))
        # The claim's body begins at step 26, and the three calls of id at its fourth, eighth and eleventh step.
        for pair in ((29, 33), (29, 36), (33, 36)):
            self.assertFalse(check_never(answer[1], [()], pair))
            self.check(lambda some: judge_answer("within", claim, 1000, some), (*answer[:-1], pair), False)

    def test_silent_answers_with_a_paper(self):
        for kind, claim, answer, call in self.answers(NEVER, 100):
            if kind == "within":
                continue
            self.assertIs(type(answer[2]), tuple)
            self.check_other_forms(call, answer)
            self.check_paper(call, answer, claim, question_of(kind, answer[1]))
            self.check(call, (*answer[:2], None), True)

    def test_silent_answers_without_a_paper(self):
        for kind, claim, answer, call in self.answers(GROWING, 100):
            if kind == "within":
                continue
            self.assertIsNone(answer[2])
            self.check_other_forms(call, answer)
            for other in ((1, 3), (3, 6), (0, 0), (), "a", 0, "none", (None,), (1, 2, 3)):
                self.check(call, (*answer[:2], other), False)

    def test_a_silent_answer_may_have_a_paper_beyond_the_limit(self):
        for kind in ("ends", "self", "alike", "best", "sure"):
            claim = claim_of(INPUTS[kind], "(spin p)")
            for limit in (0, 1, 2, 4):
                answer = REFUTERS[kind](claim, limit)
                self.assertIsNone(answer[2])
                self.check(lambda some: judge_answer(kind, claim, limit, some), answer, True)
                # The body of spin begins at step 3, and again at 5.
                for paper in ((3, 5), (3, 7), (5, 9)):
                    self.check(lambda some: judge_answer(kind, claim, limit, some), (*answer[:2], paper), True)
                for paper in ((1, 3), (1, 5), (3, 6), (4, 6)):
                    self.check(lambda some: judge_answer(kind, claim, limit, some), (*answer[:2], paper), False)

    def test_the_paper_of_the_claim_is_none_of_the_program(self):
        claim = claim_of(1, "(spin p)")
        answer = refute_self(claim, 100)
        own = (3 + 25, 5 + 25)
        self.assertTrue(check_never(answer[1], [()], own))
        self.check(lambda some: judge_answer("self", claim, 100, some), (*answer[:2], own), False)
        # Nor is the paper of an answer one of the claim's run.
        yes = claim_of(1, "p")
        answer = refute_sure(yes, 100)
        self.check(lambda some: judge_answer("sure", yes, 100, some), (*answer[:2], (3, 5)), False)

    def test_slow_answers(self):
        for body in NEVER + GROWING + YES[:3] + NO[:3]:
            claim = claim_of(1, body)
            for bound in (0, 1, 25, 26):
                answer = refute_within(claim, bound)
                self.assertEqual(answer[0], "slow")
                self.check(lambda some: judge_answer("within", claim, bound, some), answer, True)
                self.check_other_forms(lambda some: judge_answer("within", claim, bound, some), answer)
                for some in ((*answer, None), (*answer, (3, 5)), ("silent", answer[1], None), ("silent", answer[1]),
                             ("slow", answer[1], 5), ("slow", answer[1], "within", (29, 31)), ("slow",)):
                    self.check(lambda some: judge_answer("within", claim, bound, some), some, False)

    def test_answers_that_are_right_at_another_limit(self):
        for kind, refute in REFUTERS.items():
            for body in YES[:4] + NO:
                claim = claim_of(INPUTS[kind], body)
                answer = refute(claim, 1000)
                steps = run_program(claim, question_of(kind, answer[1]), 1000).steps
                enough = steps + 26 if kind == "within" else steps
                silent = refute(claim, enough - 1)
                self.assertIn(silent[0], ("silent", "slow"))
                for limit, right, wrong in ((enough, answer, silent), (enough - 1, silent, answer), (0, silent, answer),
                                            (1000000, answer, silent)):
                    self.check(lambda some: judge_answer(kind, claim, limit, some), right, True)
                    self.check(lambda some: judge_answer(kind, claim, limit, some), wrong, False)

    def test_answers_to_other_claims_and_of_other_kinds(self):
        for kind, refute in REFUTERS.items():
            bodies = ("p", "(quote ())", SPIN_BODY, "(spin p)", "(grow p)")
            claims = [claim_of(INPUTS[kind], body) for body in bodies]
            for claim in claims:
                for other in claims:
                    answer = refute(other, 100)
                    self.check(lambda some: judge_answer(kind, claim, 100, some), answer, claim == other)
            for other_kind, other_refute in REFUTERS.items():
                if INPUTS[kind] == INPUTS[other_kind] and kind != other_kind:
                    for claim in claims:
                        answer = other_refute(claim, 100)
                        self.check(lambda some: judge_answer(kind, claim, 100, some), answer, False)

    def test_the_answer_of_the_other_outcome(self):
        for kind in ("ends", "within", "best", "sure"):
            for body in ("p", "(quote ())", SPIN_BODY):
                claim = claim_of(INPUTS[kind], body)
                answer = REFUTERS[kind](claim, 1000)
                program = answer[1]
                others = {"ends": (("ends", (30, 32)), ("never", 28)), "best": (("spin", 33), ("other", (33, 35))),
                          "within": (("within", (29, 31)), ("not within", 27)), "sure": (("wrong", (29, 31)), ("missed", 27))}
                right = [pair for pair in others[kind]
                         if judge_answer(kind, claim, 1000, (pair[0], program, pair[1]) if kind == "sure"
                                         else ("wrong", program, *pair))]
                self.assertEqual(right, [pair for pair in others[kind] if pair[0] == answer[0] or pair[0] == answer[2]])

    def test_errors_are_those_of_the_claim(self):
        good = {kind: refute(claim_of(INPUTS[kind], "p"), 100) for kind, refute in REFUTERS.items()}
        for kind, answer in good.items():
            for some in (answer, (), ("wrong",), ("silent", (), None), ("slow", answer[1]), ("wrong", ((),), "ends", (1, 2))):
                for limit in (0, 26, 1000):
                    self.check_bad_program(0, lambda: judge_answer(kind, (), limit, some))
                    self.check_bad_program(0, lambda: judge_answer(kind, read_value("((main () p))"), limit, some))
                    self.check_bad_program(1, lambda: judge_answer(kind, read_value("((main (p) p) a)"), limit, some))
                    for count in range(13):
                        if count != INPUTS[kind]:
                            self.check_bad_inputs(lambda: judge_answer(kind, takes(count), limit, some))

    def test_a_program_in_an_answer_need_not_be_good(self):
        for kind in REFUTERS:
            claim = claim_of(INPUTS[kind], "p")
            for program in ((), "a", ((),), (("main", ("x",), "y"),), 5, None):
                for limit in (0, 1000):
                    for answer in (("silent", program, None), ("silent", program, (1, 3)), ("slow", program),
                                   ("wrong", program, (1, 3)), ("wrong", program, "ends", (1, 3))):
                        self.assertIs(judge_answer(kind, claim, limit, answer), False)

    def test_arguments_are_as_they_were_and_answers_the_same_again(self):
        for kind, claim, answer, call in self.answers(("p", "(quote ())", "(spin p)", "(grow p)"), 100):
            texts = write_value(claim), write_value(answer[1])
            for _ in range(2):
                self.check(call, answer, True)
                self.check(call, (*answer, ()), False)
            self.assertEqual((write_value(claim), write_value(answer[1])), texts)


class GrantsTest(JudgeTest):
    LESS = "(less (x y) (if y (if x (less (tail x) (tail y)) (quote yes)) (quote ())))"

    def claim_at(self, count, body):
        """A claim of which the body is evaluated from the list of so many a on."""
        text = write_value(("a",) * count)
        return read_value(f"((main (p v) (if (less v (quote {text})) (quote ()) {body})) {self.LESS} {MORE})")

    def call_of(self, claim, most, limit):
        return lambda some: judge_grants(claim, most, limit, some)

    def test_right_answers(self):
        for body in YES + NO + NEVER + GROWING:
            for count in (0, 1, 5):
                claim = self.claim_at(count, body)
                for most in (0, 1, 5, 6, 20):
                    self.check(self.call_of(claim, most, 1000), refute_grants(claim, most, 1000), True)

    def test_wrong(self):
        for count in (0, 1, 2, 50):
            for body in YES[:5]:
                claim = self.claim_at(count, body)
                answer = refute_grants(claim, count + 1, 10000)
                self.assertEqual(answer[:3:2], ("wrong", count))
                for most in (count + 1, count + 2, 1000):
                    self.check(self.call_of(claim, most, 10000), answer, True)
                for most in (0, count):
                    self.check(self.call_of(claim, most, 10000), answer, False)
                    self.check(self.call_of(claim, most, 10000), ("kept", answer[1]), True)
                call = self.call_of(claim, count + 3, 10000)
                for number in (count + 1, count - 1, -1, None, "a", (), ("a",) * count, (count,), str(count)):
                    self.check(call, (*answer[:2], number, answer[3]), False)
                self.check_steps(call, answer)
                self.check(call, ("kept", answer[1]), False)
                self.check(call, ("silent", answer[1], count, None), False)
            self.check_other_forms(call, answer)

    def test_silent(self):
        for count in (0, 1, 2, 20):
            for body in NEVER + GROWING:
                claim = self.claim_at(count, body)
                answer = refute_grants(claim, count + 1, 1000)
                self.assertEqual(answer[:3:2], ("silent", count))
                for most in (count + 1, count + 2, 1000):
                    self.check(self.call_of(claim, most, 1000), answer, True)
                for most in (0, count):
                    self.check(self.call_of(claim, most, 1000), answer, False)
                call = self.call_of(claim, count + 3, 1000)
                self.check(call, (*answer[:3], None), True)
                for number in (count + 1, count - 1, -1, None, "a", (), ("a",) * count, (count,)):
                    self.check(call, (*answer[:2], number, answer[3]), False)
                self.check(call, ("kept", answer[1]), False)
                self.check(call, ("wrong", *answer[1:]), False)
                self.check(call, ("wrong", *answer[1:3], 100), False)
                self.check_other_forms(call, answer)
                if answer[3] is not None:
                    if count == 1:
                        self.check_paper(call, answer, claim, [answer[1], ("a",) * count])
                else:
                    for other in ((1, 4), (4, 7), (0, 0), (), "a", 0, (1,)):
                        self.check(call, (*answer[:3], other), False)

    def test_kept(self):
        for body in NO:
            claim = claim_of(2, body)
            for most in (0, 1, 300):
                answer = refute_grants(claim, most, 1000)
                self.assertEqual(answer[0], "kept")
                call = self.call_of(claim, most, 1000)
                self.check(call, answer, True)
                for some in ((*answer, None), (*answer, 0), ("silent", answer[1], 0, None), ("wrong", answer[1], 0, 29),
                             ("silent", answer[1], most, None), ("wrong", answer[1], most, 29), ("kept",), ()):
                    self.check(call, some, False)
            for program in (answer[1][:-1], answer[1][1:], deep_change(answer[1]), (), "a", None, 3):
                self.check(call, ("kept", program), False)

    def test_limits(self):
        claim = self.claim_at(3, "(quote yes)")
        program = refute_grants(claim, 0, 0)[1]
        steps = [run_program(claim, [program, ("a",) * at], 1000).steps for at in range(4)]
        for limit in sorted({0, 1, 1000, *steps, *[some - 1 for some in steps], *[some + 1 for some in steps]}):
            answers = [refute_grants(claim, 4, other) for other in (0, steps[1] - 1, steps[2] - 1, steps[3] - 1, steps[3])]
            right = refute_grants(claim, 4, limit)
            for answer in answers:
                self.check(self.call_of(claim, 4, limit), answer, answer == right)

    def test_errors_are_those_of_the_claim(self):
        answer = refute_grants(claim_of(2, "p"), 1, 100)
        for some in (answer, (), ("kept", answer[1]), ("wrong", (), 0, 5)):
            for most in (0, 1, 1000):
                self.check_bad_program(0, lambda: judge_grants("a", most, 100, some))
                self.check_bad_program(1, lambda: judge_grants(read_value("((main (p) p) (main (x) x))"), most, 100, some))
                for count in range(13):
                    if count != 2:
                        self.check_bad_inputs(lambda: judge_grants(takes(count), most, 100, some))

    def test_arguments_are_as_they_were_and_answers_the_same_again(self):
        for body in ("p", "(quote ())", "(spin p)", "(grow p)"):
            claim = claim_of(2, body)
            answer = refute_grants(claim, 3, 100)
            texts = write_value(claim), write_value(answer[1])
            for _ in range(2):
                self.check(self.call_of(claim, 3, 100), answer, True)
                self.check(self.call_of(claim, 3, 100), (*answer, ()), False)
            self.assertEqual((write_value(claim), write_value(answer[1])), texts)


if __name__ == "__main__":
    unittest.main()
