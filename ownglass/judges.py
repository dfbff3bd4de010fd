"""Whether answers to claims are right."""

from ownglass.claims import STEPS_BESIDE, gives_spin, question_on, says_yes
from ownglass.claims import first_reply, program_on_grants, question_on_grants
from ownglass.machine import NO_LIMIT, run_program
from ownglass.never import check_never
from ownglass.texts import same_values

# What stands at the end of an answer of each kind, and then its words, where
# the claim says yes (for "best", where it gives spin), and where it says no.
YES_ANSWERS = {
    "ends": ("paper", "wrong", "ends"),
    "self": ("value", "wrong", "own"),
    "alike": ("value", "wrong", "alike"),
    "best": ("steps", "wrong", "spin"),
    "within": ("paper", "wrong", "within"),
    "sure": ("paper", "wrong"),
}
NO_ANSWERS = {
    "ends": ("steps", "wrong", "never"),
    "self": ("value", "wrong", "other"),
    "alike": ("value", "wrong", "unlike"),
    "best": ("paper", "wrong", "other"),
    "within": ("steps", "wrong", "not within"),
    "sure": ("steps", "missed"),
}


def judge_answer(kind, claim, limit, answer):
    """Return True if the answer to a claim of the kind is right, otherwise False."""
    program, question = question_on(kind, claim)
    bound = max(0, limit - STEPS_BESIDE) if kind == "within" else limit
    run = run_program(claim, question, bound)
    if run.kind == "tired":
        if kind == "within":
            return same_values(answer, ("slow", program))
        return _is_right_silence(answer, ("silent", program), claim, question)
    yes = gives_spin(run) if kind == "best" else says_yes(run)
    proof, outcome, *words = YES_ANSWERS[kind] if yes else NO_ANSWERS[kind]
    if not same_values(answer[:-1], (outcome, program, *words)):
        return False
    if proof == "paper":
        return _is_right_paper(program, [()], answer[-1])
    told = run_program(program, [()], NO_LIMIT)
    return same_values(answer[-1], told.steps if proof == "steps" else told.value)


def judge_grants(claim, most, limit, answer):
    """Return True if the answer to a claim that grants is right, otherwise False."""
    program = program_on_grants(claim)
    reply = first_reply(claim, program, most, limit)
    if reply is None:
        return same_values(answer, ("kept", program))
    number, run = reply
    if run.kind == "tired":
        question = question_on_grants(program, number)
        return _is_right_silence(answer, ("silent", program, number), claim, question)
    if not same_values(answer[:-1], ("wrong", program, number)):
        return False
    return same_values(answer[-1], run_program(program, [], NO_LIMIT).steps)


def _is_right_silence(answer, front, claim, question):
    """Return whether an answer is the front and a paper of the claim's run on the question, or None."""
    if not same_values(answer[:-1], front):
        return False
    paper = answer[-1]
    return paper is None or _is_right_paper(claim, question, paper)


def _is_right_paper(program, inputs, paper):
    """Return whether something is a pair of integers that tells that the run never ends."""
    if not isinstance(paper, tuple) or len(paper) != 2:
        return False
    first, second = paper
    if not isinstance(first, int) or not isinstance(second, int):
        return False
    return check_never(program, inputs, paper)
